/- Contracts of maxim's weightOf, negatives, the ways to select, Select. -/
import Derived.Test.YtpncmdlbmnmahaaGreatMx
import Derived.Test.YtpncmdlbmnmahaaGreatQBv
import Derived.Test.YtpncmdlbmnmahaaGreatQBx
import Derived.Deep.LoopGhost
import Derived.Laws.EntriesVeiled
namespace Go.Proofs.YtpncmdlbmnmahaaGreat
set_option linter.unusedVariables false
set_option linter.unusedSimpArgs false
open Go.RowKit
/-! ### Weights -/
theorem wtB_facts {g : Sg} {l r : T} (h : errL g l r = 0) : weightV g l = .tuple #[.int .i64 (wtT g l), .int .i64 0] ∧ weightV g r = .tuple #[.int .i64 (wtT g r), .int .i64 0] ∧ 1 ≤ wtT g l ∧ wtT g l ≤ 400000 ∧ 1 ≤ wtT g r ∧ wtT g r ≤ 400000 := by
  obtain ⟨h1, h2⟩ := errL_two h
  have hr := errT_right h1
  exact ⟨by unfold weightV; rw [if_pos h1], by unfold weightV; rw [if_pos h2], wt_pos hr (errT_okT h1), wt_le hr (errT_okT h1), wt_pos hr (errT_okT h2), wt_le hr (errT_okT h2)⟩
set_option maxRecDepth 100000 in
set_option maxHeartbeats 4000000 in
theorem weightOf_l (g : Sg) (x : LV) (hx : x.sz) (he : errL g x.l x.r = 0) (n₀ : Nat) (ga : Option Addr) (gc : Nat) (w : World) (hn : n₀ ≤ w.heap.size) (hG : IsSg n₀ w g ga gc) (hX : IsLv n₀ w x) :
    Calls Tryz.prog 66 #[.slice ga g.length gc, x.v] w fun e w' => e = .returned (.int .i64 (wtB g x.t3)) ∧ Below w.heap.size w w' := by
  obtain ⟨e1, e2, b1, b2, b3, b4⟩ := wtB_facts he
  have HE := Lib.hid (show wtB g x.t3 = wtT g x.l + wtT g x.r from rfl)
  have C1 := Lib.hid (fun (W : World) (hW : Below w.heap.size w W) => (by
    have h := weight_any g x.l hx.1 n₀ ga gc x.pa x.ca W (Nat.le_trans hn hW.size) (hG.below (hW.mono hn)) hX.lw (hX.below (hW.mono hn)).la
    rw [e1] at h; exact h : Calls Tryz.prog 90 #[.slice ga g.length gc, tm x.l.head x.pa x.l.args.length x.ca] W fun e w' => e = .returned (.tuple #[.int .i64 (wtT g x.l), .int .i64 0]) ∧ Below W.heap.size W w'))
  have C2 := Lib.hid (fun (W : World) (hW : Below w.heap.size w W) => (by
    have h := weight_any g x.r hx.2 n₀ ga gc x.pb x.cb W (Nat.le_trans hn hW.size) (hG.below (hW.mono hn)) hX.rw (hX.below (hW.mono hn)).ra
    rw [e2] at h; exact h : Calls Tryz.prog 90 #[.slice ga g.length gc, tm x.r.head x.pb x.r.args.length x.cb] W fun e w' => e = .returned (.tuple #[.int .i64 (wtT g x.r), .int .i64 0]) ∧ Below W.heap.size W w'))
  obtain ⟨W1, hW1⟩ : ∃ W1, w.alloc x.obj = W1 := ⟨_, rfl⟩
  have hF1 : Below w.heap.size w W1 := by rw [← hW1]; exact (Below.refl _ w).alloc (Nat.le_refl _) _
  have L := Lib.hid (show Later (Lc w.heap.size x) W1 from by rw [← hW1]; exact later_lc w x)
  have HF1 := Lib.hid hF1
  generalize wtT g x.l = p at HE C1 b1 b2
  generalize wtT g x.r = q at HE C2 b3 b4
  have hs1 : -9223372036854775808 ≤ p + q := by omega
  have hs2 : p + q ≤ 9223372036854775807 := by omega
  clear hG hX hF1 e1 e2 he hx
  obtain ⟨l0, l1, l2, l3, l4⟩ := L.out W1 (Below.refl _ _)
  go_enter Tryz.func66, Tryz.ntmps66
  go_wp2_with fail
  clear l0 l1 l2 l3 l4 hW1
  refine (C1.out W1 HF1.out).mono ?_
  rintro e w2 ⟨rfl, hb⟩
  have HB2 := Lib.hid (HF1.out.trans (hb.mono HF1.out.size))
  obtain ⟨l0, l1, l2, l3, l4⟩ := L.out w2 hb
  clear hb
  go_wp2_with fail
  clear l0 l1 l2 l3 l4
  refine (C2.out w2 HB2.out).mono ?_
  rintro e w3 ⟨rfl, hb⟩
  have HB3 := Lib.hid (HB2.out.trans (hb.mono HB2.out.size))
  clear hb
  go_wp2
  go_ret
  exact ⟨by rw [HE.out]; rfl, HB3.out⟩
/-! ### The next negative literal -/
structure NxF (Bi : Nat) (j : Int) (W wr : World) : Prop where
  b : Below Bi W wr
  s : wr.heap.size = W.heap.size
  c : wr.cell? ⟨Bi, 0, none⟩ = some (.int .i64 j)
  f : wr.frozen? ⟨Bi, 0, none⟩ = false
  o : ∀ b, b ≠ Bi → wr.heap[b]? = W.heap[b]?
theorem NxF.set {Bi : Nat} {j : Int} {W wr : World} (h : NxF Bi j W wr) (k : Int) : NxF Bi k W (wr.setCell ⟨Bi, 0, none⟩ (.int .i64 k)) :=
  ⟨h.b.setCell (p := ⟨Bi, 0, none⟩) (Nat.le_refl _) _, by simp [h.s], World.cell?_setCell_same' _ _ _ (by rw [h.c]; rfl), by rw [World.frozen?_setCell]; exact h.f, fun b hb => (Below.heap_setCell _ _ _ _ hb).trans (h.o b hb)⟩
def NxNo (C : List Lt3) (j0 j : Nat) : Prop := ∀ q, j0 ≤ q → q < j → (C.getD q z3).neg = false
def NxI (C : List Lt3) (Bi j0 : Nat) (W : World) (gk : Nat) (wr : World) : Prop := ∃ j : Nat, j0 ≤ j ∧ j ≤ C.length ∧ gk = C.length - j ∧ NxNo C j0 j ∧ NxF Bi j W wr
def NxPost (C : List Lt3) (Bi j0 : Nat) (W : World) (e : Ending) (w' : World) : Prop := ∃ j : Nat, j0 ≤ j ∧ j ≤ C.length ∧ NxNo C j0 j ∧ NxF Bi j W w' ∧
  ((j < C.length ∧ (C.getD j z3).neg = true ∧ e = .returned (.tuple #[.int .i64 j, .bool true])) ∨ (j = C.length ∧ e = .returned (.tuple #[.int .i64 0, .bool false])))
set_option maxRecDepth 100000 in
set_option maxHeartbeats 4000000 in
theorem next_any (P : List LV) (n₀ Bi Bc j0 : Nat) (v : Int) (hv : v + 1 = j0) (hj : j0 ≤ P.length) (a : Option Addr) (c : Nat) (W : World) (hn : n₀ ≤ Bi) (hP : IsCl n₀ W P a c) (hbc : Bc < Bi) (hcc : W.cell? ⟨Bc, 0, none⟩ = some (.slice a P.length c)) (hci : W.cell? ⟨Bi, 0, none⟩ = some (.int .i64 v)) (hfi : W.frozen? ⟨Bi, 0, none⟩ = false) :
    Calls Tryz.prog 89 #[.pointer (some ⟨Bi, 0, none⟩), .pointer (some ⟨Bc, 0, none⟩)] W (NxPost (t3s P) Bi j0 W) := by
  have hlc : P.length ≤ c ∧ c ≤ maxLen := ⟨hP.1, hP.2.1⟩
  unfold maxLen at hlc
  obtain ⟨hl1, hl2⟩ := hlc
  have HP := Lib.hid hP
  have HL := Lib.hid (show (t3s P).length = P.length from by simp)
  have HC := Lib.hid hcc
  have HI0 := Lib.hid (show NxF Bi j0 W (W.setCell ⟨Bi, 0, none⟩ (.int .i64 (v + 1))) from by
    rw [hv]
    exact (NxF.set ⟨Below.refl _ _, rfl, hci, hfi, fun _ _ => rfl⟩ _))
  have hv0 : -9223372036854775808 ≤ v + 1 := by omega
  have hv1 : v + 1 ≤ 9223372036854775807 := by omega
  clear hP hcc hv
  go_enter Tryz.func89, Tryz.ntmps89
  go_wp2
  generalize W.setCell ⟨Bi, 0, none⟩ (.int .i64 (v + 1)) = W1 at HI0 ⊢
  clear hci hfi hv0 hv1
  go_loopg [] (P.length - j0) (fun gk wr => NxI (t3s P) Bi j0 W gk wr)
  case atStart => exact ⟨j0, Nat.le_refl _, by rw [HL.out]; exact hj, by rw [HL.out], fun q h1 h2 => by omega, HI0.out⟩
  case round =>
    obtain ⟨j, h1, h2, h3, h4, h5⟩ := hrel
    rw [HL.out] at h2 h3
    have HN := Lib.hid h4
    have HF := Lib.hid h5
    have hci := h5.c
    have hfi := h5.f
    have hcc := (h5.b.cell (p := ⟨Bc, 0, none⟩) hbc).trans HC.out
    have hj0 : (0 : Int) ≤ (j : Int) := Int.natCast_nonneg _
    clear h4 h5 HI0
    by_cases hlt : j < P.length
    · obtain ⟨b, o, x, rfl, hb, hx, ⟨a0, _⟩, _⟩ := (HP.out.below (HF.out.b.mono hn)).elem (i := j) hlt
      have hj1 : (j : Int) < (P.length : Int) := by omega
      have HX := Lib.hid (getD_of (t3s_get hx))
      have hbi : b ≠ Bi := by omega
      clear hx
      obtain ⟨nn, hnn⟩ : ∃ nn, x.n = nn := ⟨_, rfl⟩
      rw [hnn] at a0
      have HNN := Lib.hid (show ((t3s P).getD j z3).neg = nn from by rw [HX.out]; exact hnn)
      clear hnn
      cases nn with
      | true =>
        go_wp2
        refine bodyPost_ret (v := .tuple #[.int .i64 j, .bool true]) (by simp [results, Tryz.results89, go_sem]) rfl ?_
        exact ⟨j, h1, by rw [HL.out]; omega, HN.out, HF.out, .inl ⟨by rw [HL.out]; exact hlt, HNN.out, rfl⟩⟩
      | false =>
        have hs1 : -9223372036854775808 ≤ (j : Int) + 1 := by omega
        have hs2 : (j : Int) + 1 ≤ 9223372036854775807 := by omega
        have HR := Lib.hid (show NxI (t3s P) Bi j0 W (P.length - (j + 1)) (wr.setCell ⟨Bi, 0, none⟩ (.int .i64 ((j : Int) + 1))) from by
          refine ⟨j + 1, by omega, by rw [HL.out]; omega, by rw [HL.out], fun q q1 q2 => ?_, ?_⟩
          · by_cases e : q = j
            · subst e; exact HNN.out
            · exact HN.out q q1 (by omega)
          · have h := HF.out.set ((j : Int) + 1)
            rwa [show ((j + 1 : Nat) : Int) = (j : Int) + 1 from by omega])
        go_wp2
        go_roundg (P.length - (j + 1))
        case measure => omega
        case rel => exact HR.out
    · obtain rfl : j = P.length := by omega
      go_wp2
      refine bodyPost_ret (v := .tuple #[.int .i64 0, .bool false]) (by simp [results, Tryz.results89, go_sem]) rfl ?_
      exact ⟨P.length, h1, by rw [HL.out]; omega, HN.out, HF.out, .inr ⟨by rw [HL.out], rfl⟩⟩
set_option maxRecDepth 100000 in
theorem negatives_any (P : List LV) (a : Option Addr) (c : Nat) (w : World) :
    Calls Tryz.prog 65 #[.slice a P.length c] w fun e w' => e = .returned (.func (.func 89) #[] #[.pointer (some ⟨w.heap.size + 1, 0, none⟩), .pointer (some ⟨w.heap.size, 0, none⟩)]) ∧ w' = (w.alloc (.cells #[.slice a P.length c] 23)).alloc (.cells #[.int .i64 (-1)] 3) := by
  go_enter Tryz.func65, Tryz.ntmps65
  go_wp2
  go_ret
  exact ⟨rfl, rfl⟩
/-! ### The ways to select -/
def SlPost (L : List Int) (w : World) (e : Ending) (w' : World) : Prop := ∃ (p : Option Addr) (c : Nat), e = .returned (.slice p L.length c) ∧ IsIs w'.heap.size w' L p c ∧ Below w.heap.size w w'
theorem is_nil (n : Nat) (W : World) : IsIs n W [] none 0 := ⟨by simp, by simp [maxLen], .inl rfl⟩
theorem is_one (z : Int) (W : World) : IsIs (W.alloc (.cells #[.int .i64 z] 3)).heap.size (W.alloc (.cells #[.int .i64 z] 3)) [z] (some ⟨W.heap.size, 0, none⟩) 1 := by
  have h := (later_cs W #[.int .i64 z] 3).now
  refine ⟨by simp, by simp [maxLen], .inr ⟨W.heap.size, 0, rfl, h.1, fun j y hy => ?_⟩⟩
  match j, hy with
  | 0, hy => simp at hy; subst hy; exact h.2 0 _ rfl
  | j + 1, hy => simp at hy
/-- What the function that negatives makes rests on. -/
structure NgW (P : List LV) (a : Option Addr) (c : Nat) (j : Int) (w wr : World) : Prop where
  b : Below w.heap.size w wr
  k : wr.cell? ⟨w.heap.size, 0, none⟩ = some (.slice a P.length c)
  c : wr.cell? ⟨w.heap.size + 1, 0, none⟩ = some (.int .i64 j)
  f : wr.frozen? ⟨w.heap.size + 1, 0, none⟩ = false
  z : w.heap.size + 1 < wr.heap.size
theorem ngW_start (P : List LV) (a : Option Addr) (c : Nat) (w : World) : NgW P a c (-1) w ((w.alloc (.cells #[.slice a P.length c] 23)).alloc (.cells #[.int .i64 (-1)] 3)) :=
  ⟨((Below.refl _ w).alloc (Nat.le_refl _) _).alloc (by simp) _, by simp [go_sem], by simp [go_sem], by simp [go_sem], by simp⟩
theorem NgW.next {P : List LV} {a : Option Addr} {c : Nat} {j k : Int} {w wr w' : World} (h : NgW P a c j w wr) (hx : NxF (w.heap.size + 1) k wr w') : NgW P a c k w w' :=
  ⟨h.b.trans (hx.b.mono (by omega)), (hx.b.cell (p := ⟨w.heap.size, 0, none⟩) (by simp)).trans h.k, hx.c, hx.f, by rw [hx.s]; exact h.z⟩
theorem NgW.later {P : List LV} {a : Option Addr} {c : Nat} {j : Int} {w wr w' : World} (h : NgW P a c j w wr) (hb : Below wr.heap.size wr w') : NgW P a c j w w' := by
  have hz := h.z
  exact ⟨h.b.trans (hb.mono (by omega)), (hb.cell (p := ⟨w.heap.size, 0, none⟩) (by simp; omega)).trans h.k, (hb.cell (p := ⟨w.heap.size + 1, 0, none⟩) hz).trans h.c, (hb.frozen (p := ⟨w.heap.size + 1, 0, none⟩) hz).trans h.f, by have := hb.size; omega⟩
theorem NgW.call {P : List LV} {a : Option Addr} {c : Nat} {v : Int} {w wr : World} {j0 : Nat} (h : NgW P a c v w wr) (hv : v + 1 = j0) (hj : j0 ≤ P.length) (hP : IsCl w.heap.size w P a c) :
    Calls Tryz.prog 89 #[.pointer (some ⟨w.heap.size + 1, 0, none⟩), .pointer (some ⟨w.heap.size, 0, none⟩)] wr (NxPost (t3s P) (w.heap.size + 1) j0 wr) :=
  next_any P w.heap.size (w.heap.size + 1) w.heap.size j0 v hv hj a c wr (by omega) (hP.below h.b) (by omega) h.k h.c h.f
set_option maxRecDepth 100000 in
set_option maxHeartbeats 4000000 in
theorem none_any (g : Sg) (P : List LV) (ga : Option Addr) (gc : Nat) (a : Option Addr) (c : Nat) (w : World) :
    Calls Tryz.prog 44 #[.slice ga g.length gc, .slice a P.length c] w (SlPost (pickL g (t3s P) 0) w) := by
  go_enter Tryz.func44, Tryz.ntmps44
  go_wp2
  go_ret
  exact ⟨none, 0, rfl, is_nil _ _, Below.refl _ _⟩
theorem best_first {g : Sg} {C : List Lt3} {j : Nat} (hj : j < C.length) (hno : NxNo C 0 j) (hn : (C.getD j z3).neg = true) : pickL g C 1 = [(j : Int)] := by
  have hb : ∀ n, j < n → bestF g false C n = j := by
    intro n
    induction n with
    | zero => intro h; omega
    | succ n ih =>
      intro h
      rw [bestF]
      by_cases e : n = j
      · subst e
        rw [if_pos (by rw [hn]), if_pos ((bestF_none n).2 fun q hq => hno q (by omega) hq)]
      · rw [ih (by omega)]
        split
        · rw [if_neg (by omega)]; simp
        · rfl
  unfold pickL
  rw [if_neg (by decide)]
  show (if bestF g false C C.length < 0 then [] else [bestF g false C C.length]) = _
  rw [hb _ hj, if_neg (by omega)]
theorem best_nil {g : Sg} {C : List Lt3} {how : Int} (hno : NxNo C 0 C.length) : pickL g C how = [] := by
  unfold pickL
  split
  · rfl
  · rw [if_pos ((bestF_none _).2 fun q hq => hno q (by omega) hq)]
set_option maxRecDepth 100000 in
set_option maxHeartbeats 4000000 in
theorem firstNeg_any (g : Sg) (P : List LV) (n₀ : Nat) (ga : Option Addr) (gc : Nat) (a : Option Addr) (c : Nat) (w : World) (hn : n₀ ≤ w.heap.size) (hP : IsCl n₀ w P a c) :
    Calls Tryz.prog 45 #[.slice ga g.length gc, .slice a P.length c] w (SlPost (pickL g (t3s P) 1) w) := by
  have HP := Lib.hid (hP.mono hn)
  clear hP
  go_enter Tryz.func45, Tryz.ntmps45
  go_wp2_with fail
  refine (negatives_any P a c w).mono ?_
  rintro e w2 ⟨rfl, hw2⟩
  have HN := Lib.hid (show NgW P a c (-1) w w2 from by rw [hw2]; exact ngW_start P a c w)
  clear hw2
  go_wp2_with fail
  refine (HN.out.call (j0 := 0) (by decide) (by omega) HP.out).mono ?_
  rintro e w3 ⟨j, _, hjl, hno, hF, hres⟩
  have HN3 := Lib.hid (HN.out.next hF)
  have HNO := Lib.hid hno
  clear hno hF
  rcases hres with ⟨h1, h2, rfl⟩ | ⟨h1, rfl⟩
  · have HR := Lib.hid (best_first (g := g) h1 HNO.out h2)
    clear h1 h2 hjl
    go_wp2
    go_ret
    exact ⟨some ⟨w3.heap.size, 0, none⟩, 1, by rw [HR.out]; rfl, by rw [HR.out]; exact is_one _ _, HN3.out.b.alloc (by have := HN3.out.b.size; omega) _⟩
  · have HR := Lib.hid (best_nil (g := g) (how := 1) (by rw [← h1]; exact HNO.out))
    clear h1 hjl
    go_wp2
    go_ret
    exact ⟨none, 0, by rw [HR.out]; rfl, by rw [HR.out]; exact is_nil _ _, HN3.out.b⟩
/-- Where the search for the heaviest one stands. -/
def HvB (g : Sg) (C : List Lt3) (w : World) (j : Nat) (hv gr : Value) (wr : World) : Prop :=
  (bestF g true C j < 0 ∧ hv = .slice none 0 0 ∧ gr = .int .i64 0) ∨
  (0 ≤ bestF g true C j ∧ gr = .int .i64 (wtB g (C.getD (bestF g true C j).toNat z3)) ∧ ∃ h, hv = .slice (some ⟨h, 0, none⟩) 1 1 ∧ w.heap.size + 1 < h ∧ h < wr.heap.size ∧ wr.cell? ⟨h, 0, none⟩ = some (.int .i64 (bestF g true C j)))
def HvI (g : Sg) (P : List LV) (a : Option Addr) (c : Nat) (w : World) (gk : Nat) (hv gr iv ok : Value) (wr : World) : Prop :=
  ∃ j : Nat, j ≤ P.length ∧ gk = P.length - j ∧ NgW P a c j w wr ∧ HvB g (t3s P) w j hv gr wr ∧
  ((j < P.length ∧ ((t3s P).getD j z3).neg = true ∧ iv = .int .i64 j ∧ ok = .bool true) ∨ (j = P.length ∧ iv = .int .i64 0 ∧ ok = .bool false))
theorem HvB.skip {g : Sg} {C : List Lt3} {w wr w' : World} {j n : Nat} {hv gr : Value} (h : HvB g C w j hv gr wr) (hno : NxNo C j n) (hn : j ≤ n) (hb : ∀ b, b ≠ w.heap.size + 1 → w'.heap[b]? = wr.heap[b]?) (hs : wr.heap.size ≤ w'.heap.size) : HvB g C w n hv gr w' := by
  unfold HvB at h ⊢
  rw [bestF_skip n hno hn]
  rcases h with h | ⟨h1, h2, k, h3, h4, h5, h6⟩
  · exact .inl h
  · exact .inr ⟨h1, h2, k, h3, h4, by omega, (World.cell?_of_block (a := ⟨k, 0, none⟩) (hb k (by omega))).trans h6⟩
set_option maxRecDepth 100000 in
set_option maxHeartbeats 8000000 in
theorem heaviest_any (g : Sg) (P : List LV) (hsz : ∀ x ∈ P, x.sz) (hok : errC g (t3s P) = 0) (n₀ : Nat) (ga : Option Addr) (gc : Nat) (a : Option Addr) (c : Nat) (w : World) (hn : n₀ ≤ w.heap.size) (hG : IsSg n₀ w g ga gc) (hP : IsCl n₀ w P a c) :
    Calls Tryz.prog 46 #[.slice ga g.length gc, .slice a P.length c] w (SlPost (pickL g (t3s P) 2) w) := by
  have hlc : P.length ≤ c ∧ c ≤ maxLen := ⟨hP.1, hP.2.1⟩
  unfold maxLen at hlc
  obtain ⟨hl1, hl2⟩ := hlc
  have HSZ := Lib.hid hsz
  have HOK := Lib.hid (show ∀ x ∈ P, errL g x.l x.r = 0 from fun x hx => (errC_ok hok).2.2 x.t3 (List.mem_map.2 ⟨x, hx, rfl⟩))
  have HP := Lib.hid (hP.mono hn)
  have HG := Lib.hid (hG.mono hn)
  have HL := Lib.hid (show (t3s P).length = P.length from by simp)
  clear hP hG hsz hok
  go_enter Tryz.func46, Tryz.ntmps46
  go_wp2_with fail
  refine (negatives_any P a c w).mono ?_
  rintro e w2 ⟨rfl, hw2⟩
  have HN := Lib.hid (show NgW P a c (-1) w w2 from by rw [hw2]; exact ngW_start P a c w)
  clear hw2
  go_wp2_with fail
  refine (HN.out.call (j0 := 0) (by decide) (by omega) HP.out).mono ?_
  rintro e w3 ⟨j, _, hjl, hno, hF, hres⟩
  rw [HL.out] at hjl hres
  obtain ⟨iv, ok, he, hst⟩ : ∃ iv ok, e = .returned (.tuple #[iv, ok]) ∧ ((j < P.length ∧ ((t3s P).getD j z3).neg = true ∧ iv = .int .i64 j ∧ ok = .bool true) ∨ (j = P.length ∧ iv = .int .i64 0 ∧ ok = .bool false)) := by
    rcases hres with ⟨h1, h2, h3⟩ | ⟨h1, h3⟩
    · exact ⟨_, _, h3, .inl ⟨h1, h2, rfl, rfl⟩⟩
    · exact ⟨_, _, h3, .inr ⟨h1, rfl, rfl⟩⟩
  have HI := Lib.hid (show HvI g P a c w (P.length - j) (.slice none 0 0) (.int .i64 0) iv ok w3 from
    ⟨j, hjl, rfl, HN.out.next hF, .inl ⟨(bestF_none j).2 fun q hq => hno q (by omega) hq, rfl, rfl⟩, hst⟩)
  subst he
  clear hres hst hno hF hjl
  go_wp2
  go_loopg [5, 6, 8, 9] (P.length - j) (fun gk hv gr iv ok wr => HvI g P a c w gk hv gr iv ok wr)
  case atStart => exact HI.out
  case round =>
    obtain ⟨j, hjl, hgk, hN, hB, hst⟩ := hrel
    have HN := Lib.hid hN
    have HB := Lib.hid hB
    have hwz := hN.b.size
    clear hN hB HI
    rcases hst with ⟨hlt, hneg, rfl, rfl⟩ | ⟨rfl, rfl, rfl⟩
    · obtain ⟨b, o, x, rfl, hb, hx, ⟨a0, a1, a2, a3, a4⟩, hxl⟩ := (HP.out.below HN.out.b).elem (i := j) hlt
      have hj0 : (0 : Int) ≤ (j : Int) := Int.natCast_nonneg _
      have hj1 : (j : Int) < (P.length : Int) := by omega
      have HX := Lib.hid (getD_of (t3s_get hx))
      have CW := Lib.hid (weightOf_l g x (HSZ.out x (List.mem_of_getElem? hx)) (HOK.out x (List.mem_of_getElem? hx)) w.heap.size ga gc wr hwz (HG.out.below HN.out.b) hxl)
      have HNG := Lib.hid hneg
      have HW1 := Lib.hid (show 1 ≤ wtB g x.t3 from by
        obtain ⟨_, _, h1, _, h2, _⟩ := wtB_facts (HOK.out x (List.mem_of_getElem? hx))
        show 1 ≤ wtT g x.l + wtT g x.r
        omega)
      clear hx hxl hneg
      go_wp2_with fail
      refine CW.out.mono ?_
      rintro e w4 ⟨rfl, hb4⟩
      have HN4 := Lib.hid (HN.out.later hb4)
      have HB4 := Lib.hid (HB.out.skip (n := j) (fun q h1 h2 => by omega) (Nat.le_refl _) (w' := wr) (fun _ _ => rfl) (Nat.le_refl _))
      have HBL4 := Lib.hid hb4
      have hz4 := hb4.size
      clear hb4 CW a0 a1 a2 a3 a4
      have hkey : bestF g true (t3s P) (j + 1) = if bestF g true (t3s P) j < 0 ∨ wtB g ((t3s P).getD (bestF g true (t3s P) j).toNat z3) < wtB g x.t3 then (j : Int) else bestF g true (t3s P) j := by
        rw [bestF, if_pos HNG.out, HX.out]
        by_cases h : bestF g true (t3s P) j < 0
        · rw [if_pos h, if_pos (.inl h)]
        · rw [if_neg h]
          simp [h]
      have HK := Lib.hid hkey
      clear hkey
      obtain ⟨q, hq⟩ : ∃ q, wtB g x.t3 = q := ⟨_, rfl⟩
      rw [hq] at HK HW1 ⊢
      have HQ := Lib.hid hq
      clear hq
      -- both ways end in a call of next
      have fin : ∀ (hv gr : Value) (W : World), NgW P (some ⟨b, o, none⟩) c j w W → HvB g (t3s P) w (j + 1) hv gr W → ∀ (w5 : World) (e : Ending), NxPost (t3s P) (w.heap.size + 1) (j + 1) W e w5 → ∃ (j2 : Nat) (iv ok : Value), j < j2 ∧ j2 ≤ P.length ∧ e = .returned (.tuple #[iv, ok]) ∧ HvI g P (some ⟨b, o, none⟩) c w (P.length - j2) hv gr iv ok w5 := by
        rintro hv gr W hNW hBW w5 e ⟨j2, h1, h2, hno, hF, hres⟩
        rw [HL.out] at h2 hres
        have hI := hBW.skip hno h1 (w' := w5) (fun b hb => hF.o b hb) (by rw [hF.s]; exact Nat.le_refl _)
        rcases hres with ⟨r1, r2, rfl⟩ | ⟨r1, rfl⟩
        · exact ⟨j2, _, _, by omega, h2, rfl, j2, h2, rfl, hNW.next hF, hI, .inl ⟨r1, r2, rfl, rfl⟩⟩
        · exact ⟨j2, _, _, by omega, h2, rfl, j2, h2, rfl, hNW.next hF, hI, .inr ⟨r1, rfl, rfl⟩⟩
      have HFIN := Lib.hid fin
      clear fin
      rcases HB4.out with ⟨hbn, rfl, rfl⟩ | ⟨hbp, rfl, h, rfl, hh1, hh2, hh3⟩
      · have hgt : (0 : Int) < q := by have := HW1.out; omega
        have HNEW := Lib.hid (show HvB g (t3s P) w (j + 1) (.slice (some ⟨w4.heap.size, 0, none⟩) 1 1) (.int .i64 q) (w4.alloc (.cells #[.int .i64 j] 3)) from by
          have he : bestF g true (t3s P) (j + 1) = j := by rw [HK.out, if_pos (.inl hbn)]
          have hcs := (later_cs w4 #[.int .i64 j] 3).now
          refine .inr ⟨by rw [he]; omega, by rw [he, Int.toNat_natCast, HX.out, HQ.out], w4.heap.size, rfl, by have := HN4.out.z; omega, hcs.1, by rw [he]; exact hcs.2 0 _ rfl⟩)
        have HN5 := Lib.hid (HN4.out.later ((Below.refl _ w4).alloc (Nat.le_refl _) (.cells #[.int .i64 j] 3)))
        clear hbn
        go_wp2_with fail
        refine (HN5.out.call (j0 := j + 1) (by omega) (by omega) HP.out).mono ?_
        intro e w5 hp
        obtain ⟨j2, iv, ok, g1, g2, rfl, g3⟩ := HFIN.out _ _ _ HN5.out HNEW.out w5 e hp
        have HG3 := Lib.hid g3
        clear g3 hp
        go_wp2
        go_roundg (P.length - j2)
        case measure => omega
        case rel => exact HG3.out
      · generalize hpb : bestF g true (t3s P) j = bb at *
        generalize hqb : wtB g ((t3s P).getD bb.toNat z3) = qq at *
        have HPB := Lib.hid (And.intro hpb hqb)
        clear hpb hqb
        have hc4 := (HBL4.out.cell (p := ⟨h, 0, none⟩) hh2).trans hh3
        by_cases hgt : qq < q
        · have HNEW := Lib.hid (show HvB g (t3s P) w (j + 1) (.slice (some ⟨w4.heap.size, 0, none⟩) 1 1) (.int .i64 q) (w4.alloc (.cells #[.int .i64 j] 3)) from by
            have he : bestF g true (t3s P) (j + 1) = j := by rw [HK.out, if_pos (.inr hgt)]
            have hcs := (later_cs w4 #[.int .i64 j] 3).now
            refine .inr ⟨by rw [he]; omega, by rw [he, Int.toNat_natCast, HX.out, HQ.out], w4.heap.size, rfl, by have := HN4.out.z; omega, hcs.1, by rw [he]; exact hcs.2 0 _ rfl⟩)
          have HN5 := Lib.hid (HN4.out.later ((Below.refl _ w4).alloc (Nat.le_refl _) (.cells #[.int .i64 j] 3)))
          clear hc4 hh3
          go_wp2_with fail
          refine (HN5.out.call (j0 := j + 1) (by omega) (by omega) HP.out).mono ?_
          intro e w5 hp
          obtain ⟨j2, iv, ok, g1, g2, rfl, g3⟩ := HFIN.out _ _ _ HN5.out HNEW.out w5 e hp
          have HG3 := Lib.hid g3
          clear g3 hp
          go_wp2
          go_roundg (P.length - j2)
          case measure => omega
          case rel => exact HG3.out
        · have HNEW := Lib.hid (show HvB g (t3s P) w (j + 1) (.slice (some ⟨h, 0, none⟩) 1 1) (.int .i64 qq) w4 from by
            have he : bestF g true (t3s P) (j + 1) = bb := by rw [HK.out, if_neg (by omega)]
            refine .inr ⟨by rw [he]; omega, by rw [he, HPB.out.2], h, rfl, hh1, by omega, by rw [he]; exact hc4⟩)
          have hgt' : decide (qq < q) = false := decide_eq_false hgt
          clear hc4 hh3 hgt
          go_wp2_with fail
          refine (HN4.out.call (j0 := j + 1) (by omega) (by omega) HP.out).mono ?_
          intro e w5 hp
          obtain ⟨j2, iv, ok, g1, g2, rfl, g3⟩ := HFIN.out _ _ _ HN4.out HNEW.out w5 e hp
          have HG3 := Lib.hid g3
          clear g3 hp
          go_wp2
          go_roundg (P.length - j2)
          case measure => omega
          case rel => exact HG3.out
    · have hpk : pickL g (t3s P) 2 = if bestF g true (t3s P) P.length < 0 then [] else [bestF g true (t3s P) P.length] := by
        unfold pickL
        rw [if_neg (by decide), HL.out]
        rfl
      rcases HB.out with ⟨hbn, rfl, rfl⟩ | ⟨hbp, rfl, h, rfl, hh1, hh2, hh3⟩
      · have HR := Lib.hid (show pickL g (t3s P) 2 = [] from by rw [hpk, if_pos hbn])
        clear hpk hbn
        go_wp2
        go_ret
        exact ⟨none, 0, by rw [HR.out]; rfl, by rw [HR.out]; exact is_nil _ _, HN.out.b⟩
      · have HR := Lib.hid (show pickL g (t3s P) 2 = [bestF g true (t3s P) P.length] from by rw [hpk, if_neg (by omega)])
        have HC := Lib.hid hh3
        clear hpk hbp hh3
        go_wp2
        go_ret
        refine ⟨some ⟨h, 0, none⟩, 1, by rw [HR.out]; rfl, ?_, HN.out.b⟩
        rw [HR.out]
        refine ⟨by simp, by simp [maxLen], .inr ⟨h, 0, rfl, hh2, fun i y hy => ?_⟩⟩
        match i, hy with
        | 0, hy => simp at hy; subst hy; exact HC.out
        | i + 1, hy => simp at hy
end Go.Proofs.YtpncmdlbmnmahaaGreat
