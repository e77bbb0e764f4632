/- Then: joined of Then, ThP2. -/
import Derived.Test.YtcbjnfdhghhgeaaBv
import Derived.Test.YtcbjnfdhghhgeaaStv
import Derived.Test.YtcbjnfdhghhgeaaQ1d
import Derived.Deep.AppendLies
/- Contract of Then, given that of boundVars. -/
namespace Go.Proofs.Ytcbjnfdhghhgeaa
set_option linter.unusedVariables false
set_option linter.unusedSimpArgs false
open Go.RowKit

/-- What boundVars answers: the variables of both. -/
def BoundAny : Prop := ∀ (s u : Sb), rightS 0 s = true → rightS 0 u = true → ∀ (n₀ : Nat) (a : Option Addr) (c : Nat) (a' : Option Addr) (c' : Nat) (w : World), n₀ ≤ w.heap.size → IsBs n₀ w s a c → IsBs n₀ w u a' c' →
  Calls Try.prog 46 #[.slice a s.length c, .slice a' u.length c'] w fun e w' => ∃ vs av cv, IsVs s u vs ∧ vs.length ≤ 1000 ∧ e = .returned (.slice av vs.length cv) ∧ IsIs w'.heap.size w' vs av cv ∧ Below w.heap.size w w'
def SEPost (x : Sb) (k : Int) (w : World) (e : Ending) (w' : World) : Prop :=
  ∃ a c, e = .returned (.tuple #[.slice a x.length c, .int .i64 k]) ∧ IsBs w'.heap.size w' x a c ∧ Below w.heap.size w w'
def ThenPost (s u : Sb) (w : World) (e : Ending) (w' : World) : Prop :=
  ((rightS 0 s && rightS 0 u) = false ∧ SEPost [] 1 w e w') ∨ ((rightS 0 s && rightS 0 u) = true ∧ ∃ vs, IsVs s u vs ∧ ((thenE s u vs = 0 ∧ SEPost (thenL s u vs) 0 w e w') ∨ (thenE s u vs ≠ 0 ∧ SEPost [] (thenE s u vs) w e w')))

def okT (B : Nat) (v : Value) (wr : World) (b : Nat) : Prop := B ≤ b ∧ b < wr.heap.size ∧ v.ownBlock ≠ some b
def ThI (s u : Sb) (vs : List Int) (wL : World) (v i : Value) (wr : World) : Prop :=
  ∃ (k : Nat) (vv : Value) (xs : List Value), k ≤ vs.length ∧ i = .int .i64 k ∧ v = vv ∧ thenE s u (vs.take k) = 0 ∧ (thenL s u (vs.take k)).length ≤ k ∧ wr.ownsRow wL.heap.size 43 3 vv (thenL s u (vs.take k)).length xs ∧ BVals (okT wL.heap.size vv wr) wr (thenL s u (vs.take k)) xs ∧ Below wL.heap.size wL wr

theorem ofS_good {s : Sb} (h : rightS 0 s = true) {z : Int} (h0 : 0 ≤ z) (h1 : z ≤ 255) : bad (T.subs 1 (ofS s z)) = false ∧ (ofS s z).size ≤ 400 := by
  refine ⟨?_, ofS_size (by omega) (right_size h) z⟩
  have : ∀ (s : Sb), (∀ x ∈ s, x.2.check = 0) → bad (T.subs 1 (ofS s z)) = false := by
    intro s
    induction s with
    | nil =>
      intro _
      have hlt : (-1 - z) < 0 := by omega
      have hok : okB (-1 - z) 0 = true := by unfold okB; rw [if_pos hlt]; simp; omega
      show bad (T.subs 1 (.node (-1 - z) [])) = false
      rw [bad_eq]
      show (!okB (-1 - z) 0 || bad []) = false
      rw [hok]
      rfl
    | cons p s ih =>
      intro hs
      obtain ⟨x, t⟩ := p
      rw [ofS]
      split
      · exact (check_ok (hs (x, t) (by simp))).2.2
      · exact ih fun y hy => hs y (by simp [hy])
  exact this s fun x hx => by
    obtain ⟨i, hi⟩ := List.getElem?_of_mem hx
    exact (rightS_low h hi).2.2.1

theorem vs_bound {s u : Sb} (hs : rightS 0 s = true) (hu : rightS 0 u = true) {vs : List Int} (hv : IsVs s u vs) {z : Int} (hz : z ∈ vs) : 0 ≤ z ∧ z ≤ 255 := by
  have hb : ∀ s : Sb, rightS 0 s = true → bnd s z = true → 0 ≤ z ∧ z ≤ 255 := fun s h hb => by
    simp only [bnd, List.any_eq_true, decide_eq_true_iff] at hb
    obtain ⟨x, hx, rfl⟩ := hb
    obtain ⟨i, hi⟩ := List.getElem?_of_mem hx
    have := rightS_low h hi
    exact ⟨this.1, this.2.1⟩
  rcases (hv.2 z).1 hz with h | h
  · exact hb s hs h
  · exact hb u hu h

theorem then_step {s u : Sb} {vs : List Int} {wL wr w5 w6 : World} {k : Nat} {z : Int} {v : Value} {xs : List Value} {x : T} {a : Option Addr} {c g cap lo : Nat} (hx : thenT s u z = x) (hz : vs[k]? = some z) (hne : x.head ≠ -1 - z)
    (hzw : (Lit.int .i64 z).wf = true) (hxw : (Lit.int .i64 x.head).wf = true) (hc : x.check = 0) (he : thenE s u (vs.take k) = 0) (hlen : (thenL s u (vs.take k)).length ≤ k) (hown : wr.ownsRow wL.heap.size 43 3 v (thenL s u (vs.take k)).length xs)
    (hbv : BVals (okT wL.heap.size v wr) wr (thenL s u (vs.take k)) xs) (hB : Below wL.heap.size wL wr) (hb5 : Below wr.heap.size wr w5) (hlo : wr.heap.size ≤ lo) (hA : IsArgsp (fun b => lo ≤ b ∧ b < w5.heap.size) w5 x.args a c) (hk : k < vs.length)
    (hown6 : w6.ownsRow wL.heap.size 43 3 (.slice (some ⟨g, 0, none⟩) ((thenL s u (vs.take k)).length + 1) cap) ((thenL s u (vs.take k)).length + 1) (xs ++ [.int .i64 z, .int .i64 x.head, .slice a x.args.length c])) (hgrow : w5.grownBy w6 v.ownBlock) (hat : v.ownBlock = some g ∨ g = w5.heap.size) :
    ThI s u vs wL (.slice (some ⟨g, 0, none⟩) ((thenL s u (vs.take k)).length + 1) cap) (.int .i64 ((k + 1 : Nat) : Int)) w6 := by
  have hlt := hown.lt
  have hL := hB.size
  have hz5 := hb5.size
  have hz6 := hgrow.size
  have hst : thenL s u (vs.take (k + 1)) = thenL s u (vs.take k) ++ [(z, x)] := by rw [thenL_step hz, hx, if_neg hne]
  refine ⟨k + 1, _, xs ++ [.int .i64 z, .int .i64 x.head, .slice a x.args.length c], by omega, rfl, rfl, thenE_step he hz (by rw [hx]; exact hc), by rw [hst, List.length_append]; simp; omega, by rw [hst, List.length_append]; exact hown6, ?_, ?_⟩
  · rw [hst]
    have hkeep : ∀ b, b < w5.heap.size → v.ownBlock ≠ some b → w6.heap[b]? = w5.heap[b]? := fun b h1 h2 => hgrow.block b h1 (fun e => h2 e.symm)
    have hg : ∀ b, b < w5.heap.size → v.ownBlock ≠ some b → g ≠ b := fun b h1 h2 e => by
      subst e
      rcases hat with h | h
      · exact h2 h
      · omega
    refine BVals.snoc hzw hxw (hA.keep (fun b hb => hkeep b hb.2 (fun e => by have := hlt _ e; have := hb.1; omega)) (fun b hb => ⟨by have := hb.1; omega, by have := hb.2; omega, ?_⟩)) (hbv.keep (fun b hb => (hkeep b (by have := hb.2.1; omega) hb.2.2).trans (hb5.block b hb.2.1)) (fun b hb => ⟨hb.1, by have := hb.2.1; omega, ?_⟩))
    · simp only [Value.ownBlock, ne_eq, Option.some.injEq]
      exact hg b hb.2 (fun e => by have := hlt _ e; have := hb.1; omega)
    · simp only [Value.ownBlock, ne_eq, Option.some.injEq]
      exact hg b (by have := hb.2.1; omega) hb.2.2
  · exact (hB.trans (hb5.mono hL)).grown hgrow (by omega) (fun q hq => (hlt q hq).1)

set_option maxRecDepth 100000 in
set_option maxHeartbeats 4000000 in
theorem then_any (BA : BoundAny) (s u : Sb) (hsz : ∀ x ∈ s, x.2.size ≤ 1000000000000) (husz : ∀ x ∈ u, x.2.size ≤ 1000000000000) (n₀ : Nat) (a : Option Addr) (c : Nat) (a' : Option Addr) (c' : Nat) (w : World) (hn : n₀ ≤ w.heap.size) (hS : IsBs n₀ w s a c) (hU : IsBs n₀ w u a' c') :
    Calls Try.prog 16 #[.slice a s.length c, .slice a' u.length c'] w (ThenPost s u w) := by
  have HBA := Lib.hid BA
  have HSZ := Lib.hid hsz
  have HUZ := Lib.hid husz
  have LS := Lib.hid (show ∀ W, Below w.heap.size w W → IsBs n₀ W s a c ∧ IsBs n₀ W u a' c' ∧ n₀ ≤ W.heap.size from fun W hW => ⟨hS.below (hW.mono hn), hU.below (hW.mono hn), Nat.le_trans hn hW.size⟩)
  clear hS hU hsz husz BA hn
  obtain ⟨i0, hi, hz0, hz1, hz2⟩ := info_parts infoBind
  go_enter Try.func16, Try.ntmps16
  go_wp2_with fail
  have ls := LS.out w (Below.refl _ _)
  refine (sCheck_any s HSZ.out n₀ a c w ls.2.2 ls.1).mono ?_
  clear ls
  rintro e w1 ⟨rfl, hb⟩
  have HB1 := Lib.hid hb
  clear hb
  cases q1 : rightS 0 s
  · rw [show errS s = 1 from by unfold errS; rw [q1]; rfl]
    go_wp2
    refine bodyPost_ret (v := .tuple #[.slice none 0 0, .int .i64 1]) (by simp [results, Try.results16, go_sem]) rfl ?_
    exact .inl ⟨by rw [q1]; rfl, none, 0, rfl, IsBs.nil _ _ _ (by simp [maxLen]), HB1.out⟩
  rw [show errS s = 0 from by unfold errS; rw [q1]; rfl]
  go_wp2_with fail
  have ls := LS.out w1 HB1.out
  refine (sCheck_any u HUZ.out n₀ a' c' w1 ls.2.2 ls.2.1).mono ?_
  clear ls
  rintro e w2 ⟨rfl, hb⟩
  have HB2 := Lib.hid (HB1.out.trans (hb.mono HB1.out.size))
  clear hb HB1
  cases q2 : rightS 0 u
  · rw [show errS u = 1 from by unfold errS; rw [q2]; rfl]
    go_wp2
    refine bodyPost_ret (v := .tuple #[.slice none 0 0, .int .i64 1]) (by simp [results, Try.results16, go_sem]) rfl ?_
    exact .inl ⟨by rw [q1, q2]; rfl, none, 0, rfl, IsBs.nil _ _ _ (by simp [maxLen]), HB2.out⟩
  rw [show errS u = 0 from by unfold errS; rw [q2]; rfl]
  go_wp2_with fail
  have ls := LS.out w2 HB2.out
  refine (tableOf_any u q2 n₀ a' c' w2 ls.2.2 ls.2.1).mono ?_
  clear ls
  rintro e w3 ⟨BM, rfl, hT, hb⟩
  have HB3 := Lib.hid (HB2.out.trans (hb.mono HB2.out.size))
  have HT := Lib.hid hT
  clear hb HB2 hT
  go_wp2_with fail
  have ls := LS.out w3 HB3.out
  refine (HBA.out s u q1 q2 n₀ a c a' c' w3 ls.2.2 ls.1 ls.2.1).mono ?_
  rintro e wL ⟨vs, av, cv, hvs, hvl, rfl, hvI, hb⟩
  have HBL := Lib.hid (HB3.out.trans (hb.mono HB3.out.size))
  have HTL := Lib.hid (HT.out.below ls.2.2 hb)
  have HVS := Lib.hid hvs
  have HVI := Lib.hid hvI
  have hn0 : n₀ ≤ wL.heap.size := (LS.out wL HBL.out).2.2
  have hlv : vs.length ≤ cv ∧ cv ≤ maxLen := ⟨hvI.1, hvI.2.1⟩
  unfold maxLen at hlv
  obtain ⟨hlv1, hlv2⟩ := hlv
  have HQ := Lib.hid (show (rightS 0 s && rightS 0 u) = true from by rw [q1, q2]; rfl)
  have Q1 := Lib.hid q1
  have Q2 := Lib.hid q2
  clear hb ls HT HB3 hvs hvI q1 q2
  go_wp2
  go_loopw [7, 26] (fun v i wr => ThI s u vs wL v i wr) (fun _ i _ => vs.length - (intOf i).toNat)
  case atStart => exact ⟨0, _, [], Nat.zero_le _, rfl, rfl, rfl, Nat.le_refl _, World.ownsRow_nil _ _ _ _, trivial, Below.refl _ _⟩
  case round =>
    obtain ⟨k, vv, xs, hk, rfl, rfl, hE, hLL, hrow, hbv, hB⟩ := hrel
    have HE := Lib.hid hE
    have HROW := Lib.hid hrow
    have HBV := Lib.hid hbv
    have HB := Lib.hid hB
    have hbz := hB.size
    clear hE hrow hbv hB
    by_cases hlt : k < vs.length
    · obtain ⟨b, o, z, rfl, hbn, hz, hcz⟩ := (HVI.out.below HB.out).elem (k := k) hlt
      obtain ⟨hzb0, hzb1⟩ := vs_bound Q1.out Q2.out HVS.out (List.mem_of_getElem? hz)
      have hk0 : (0 : Int) ≤ (k : Int) := Int.natCast_nonneg _
      have hk1 : (k : Int) < (vs.length : Int) := by omega
      have HZ := Lib.hid hz
      have hbw : b < wr.heap.size := by omega
      clear hz
      have hww : Below w.heap.size w wr := HBL.out.trans (HB.out.mono HBL.out.size)
      go_wp2_with fail
      have ls := LS.out wr hww
      refine (of_any s z n₀ a c wr ls.2.2 (by omega) (by omega) ls.1).mono ?_
      clear ls
      obtain ⟨hg0, hs0⟩ := ofS_good Q1.out hzb0 hzb1
      have hxs : (thenT s u z).size ≤ 1000000000000 := Nat.le_trans (sub_bound Q2.out hs0) (by omega)
      rintro e w2 ⟨at_, ct, rfl, htw, htA, hb2⟩
      have CR : Calls Try.prog 48 #[tm (ofS s z).head at_ (ofS s z).args.length ct, .func (.func 49) #[.map (some BM)] #[]] w2 (RepPost (thenT s u z) w2) :=
        rebuild_any _ enters_tab (.map (some BM)) (ofS u) (ofS s z).size (ofS s z) (Nat.le_refl _) (by omega) hg0 n₀ at_ ct w2 (Nat.le_trans hn0 (Nat.le_trans hbz hb2.size)) htw htA (fun X v hX h0 h1 => by
          have hLX : Below wL.heap.size wL X := HB.out.trans ((hb2.trans (hX.mono hb2.size)).mono hbz)
          exact tabRep_any u HUZ.out v (by omega) (by omega) n₀ BM X (Nat.le_trans hn0 hLX.size) (HTL.out.below hn0 hLX))
      have HCR := Lib.hid CR
      have HB2 := Lib.hid hb2
      obtain ⟨x, hx⟩ : ∃ x, thenT s u z = x := ⟨_, rfl⟩
      rw [hx] at hxs HCR
      have HX := Lib.hid hx
      generalize ofS s z = y at HCR ⊢
      clear CR htw htA hb2 hg0 hs0 hx
      go_wp2_with fail
      refine HCR.out.mono ?_
      rintro e w3 ⟨a3, c3, rfl, hw3, hI3, hb3⟩
      have HW3 := Lib.hid hw3
      have HI3 := Lib.hid hI3
      have HB3 := Lib.hid hb3
      clear hw3 hI3 hb3 HCR
      go_wp2_with fail
      refine (checked_any x hxs _ a3 c3 w3 (fun b h => h.2) HW3.out HI3.out).mono ?_
      rintro e w4 ⟨a4, c4, rfl, hw4, hI4, hb4⟩
      have hB4 : Below wr.heap.size wr w4 := HB2.out.trans ((HB3.out.trans (hb4.mono HB3.out.size)).mono HB2.out.size)
      have HB4 := Lib.hid hB4
      have hz4 := hB4.size
      by_cases qc : x.check = 0
      case neg =>
        have hd := thenE_stop HE.out HZ.out (by rw [HX.out]; exact qc)
        rw [HX.out] at hd
        obtain ⟨ck, hck⟩ : ∃ ck, x.check = ck := ⟨_, rfl⟩
        rw [hck] at qc hd ⊢
        have hne : (ck == 0) = false := by simpa using qc
        have HF := Lib.hid (show ∀ ob, Below w.heap.size w (w4.alloc ob) from fun ob => (hww.trans (HB4.out.mono hww.size)).alloc (Nat.le_trans hww.size hz4) _)
        have HD := Lib.hid hd
        have HQC := Lib.hid qc
        clear hw4 hI4 hb4 hB4 hd hck
        go_wp2
        refine bodyPost_ret (v := .tuple #[.slice none 0 0, .int .i64 ck]) (by simp [results, Try.results16, go_sem]) rfl ?_
        exact .inr ⟨HQ.out, vs, HVS.out, .inr ⟨by rw [HD.out]; exact HQC.out, by rw [HD.out]; exact ⟨none, 0, rfl, IsBs.nil _ _ _ (by simp [maxLen]), HF.out _⟩⟩⟩
      have hen : endT x = x := by unfold endT; rw [if_pos qc]
      rw [hen] at hw4 hI4 ⊢
      rw [qc]
      have HQC := Lib.hid qc
      have HW4 := Lib.hid hw4
      obtain ⟨w5, hw5⟩ : ∃ w5, w4.alloc (tmCells x.head a4 x.args.length c4) = w5 := ⟨_, rfl⟩
      have hz5 : w5.heap.size = w4.heap.size + 1 := by rw [← hw5]; simp
      have hB5 : Below wr.heap.size wr w5 := by rw [← hw5]; exact HB4.out.alloc hz4 _
      have hI5 : IsArgsp (fun b => w2.heap.size ≤ b ∧ b < w4.heap.size) w5 x.args a4 c4 := by
        rw [← hw5]
        exact hI4.keep (fun b hb => Below.heap_alloc _ _ _ (by have := hb.2; have := hb4.size; omega)) (fun b hb => ⟨hb.1, by have := hb.2; have := hb4.size; omega⟩)
      have L5 := Lib.hid (show ∀ X, Below w5.heap.size w5 X → X.cell? ⟨w4.heap.size, 0, none⟩ = some (.int .i64 x.head) ∧ X.cell? ⟨w4.heap.size, 1, none⟩ = some (.slice a4 x.args.length c4) ∧ IsArgsp (fun b => w2.heap.size ≤ b ∧ b < w4.heap.size) X x.args a4 c4 ∧ Below wr.heap.size wr X ∧ w4.heap.size < X.heap.size from fun X hX => by
        have h2 := later_var w4 x.head a4 x.args.length c4 X (by rw [hw5]; exact hX)
        exact ⟨h2.1, h2.2, hI5.keep (fun b hb => hX.block b (by have := hb.2; omega)) (fun b hb => hb), hB5.trans (hX.mono hB5.size), by have := hX.size; omega⟩)
      obtain ⟨d0, d1, _, _, _⟩ := L5.out w5 (Below.refl _ _)
      clear hw4 hI4 hb4 hB4 qc hen hI5 hB5
      go_wp2_with fail
      clear d0 d1 hw5
      refine (sIsVar_any x.head a4 x.args.length c4 z w5 (by omega) (by omega)).mono ?_
      rintro e w6 ⟨rfl, hb6⟩
      obtain ⟨d0, d1, hI6, hB6, hl6⟩ := L5.out w6 hb6
      have HI6 := Lib.hid hI6
      have HB6 := Lib.hid hB6
      have hz6 := hB6.size
      clear hI6 hB6 hb6
      by_cases qv : x.head = -1 - z
      · have QV := Lib.hid qv
        rw [decide_eq_true qv]
        clear qv
        go_wp2
        go_roundw
        case rel =>
          have hst : thenL s u (vs.take (k + 1)) = thenL s u (vs.take k) := by rw [thenL_step HZ.out, HX.out, if_pos QV.out, List.append_nil]
          refine ⟨k + 1, _, xs, by omega, by go_num, rfl, thenE_step HE.out HZ.out (by rw [HX.out]; exact HQC.out), by rw [hst]; omega, by rw [hst]; exact ownsRow_later HROW.out HB6.out, ?_, HB.out.trans (HB6.out.mono hbz)⟩
          rw [hst]
          exact HBV.out.keep (fun b hb => HB6.out.block b hb.2.1) (fun b hb => ⟨hb.1, by have := hb.2.1; omega, hb.2.2⟩)
        case measure => simp [intOf]; omega
      · have QV := Lib.hid qv
        rw [decide_eq_false qv]
        clear qv
        have hrow6 := ownsRow_later HROW.out HB6.out
        have hbase : wL.heap.size ≤ w6.heap.size := Nat.le_trans hbz hz6
        have hkm : (thenL s u (vs.take k)).length + 1 ≤ maxLen := by unfold maxLen; omega
        go_wp2_with (first | (at_builtin; refine wpList_append_lies _ (by rfl) _ _ 22 (by rfl) wL.heap.size 43 i0 _ 3 40 Try.underlying22 hi hz0 hz1 hz2 rfl (by omega) _ _ xs (by rfl) (hrow6.alloc _) ⟨w6.heap.size, 0, none⟩ 1 1 [.int .i64 z, .int .i64 x.head, .slice a4 x.args.length c4] (by rfl) (by rfl) (World.news_of_block (cs := #[.int .i64 z, .int .i64 x.head, .slice a4 x.args.length c4]) (t := 43) (fr := (0, 0)) (heap_alloc_new w6 _)) (by simp [Value.oneCell']) (by omega) hkm (by omega) (by simp; omega) (w6.heap.size + 1) (by simp) ?_; intro g cap w8 hown8 hgrow8 hat8 hlt8) | go_in)
        go_roundw
        case rel =>
          have hB7 : Below wr.heap.size wr (w6.alloc (.cells #[.int .i64 z, .int .i64 x.head, .slice a4 x.args.length c4] 43)) := HB6.out.alloc hz6 _
          have h := then_step (lo := w2.heap.size) HX.out HZ.out QV.out (WalkArith.wf_i64 ⟨by omega, by omega⟩) HW4.out HQC.out HE.out hLL HROW.out HBV.out HB.out hB7 HB2.out.size (HI6.out.keep (fun b hb => Below.heap_alloc _ _ _ (by have := hb.2; omega)) (fun b hb => ⟨hb.1, by have := hb.2; simp; omega⟩)) hlt hown8 hgrow8 (by simpa using hat8)
          exact h
        case measure => simp [intOf]; omega
    · obtain rfl : k = vs.length := by omega
      have hE := HE.out
      have hrow := HROW.out
      have hbv := HBV.out
      rw [List.take_length] at hE hrow hbv
      obtain ⟨ar, cr, hvv, hBs⟩ := isBs_of_owns (n := wr.heap.size) hrow hbv (fun b hb => hb.2.1) (fun g hg => by have := hrow.lt g hg; omega)
      subst hvv
      have HBS := Lib.hid hBs
      have HEF := Lib.hid hE
      have HF := Lib.hid (HBL.out.trans (HB.out.mono HBL.out.size))
      clear hE hrow hbv hBs HROW HBV HE
      go_wp2
      refine bodyPost_ret (v := .tuple #[.slice ar (thenL s u vs).length cr, .int .i64 0]) (by simp [results, Try.results16, go_sem]) rfl ?_
      exact .inr ⟨HQ.out, vs, HVS.out, .inl ⟨HEF.out, ar, cr, rfl, HBS.out, HF.out⟩⟩

end Go.Proofs.Ytcbjnfdhghhgeaa

/- Then over all variables from 0 to 255; how three substitutions are put together. Plain words. -/
namespace Go.Proofs.Ytcbjnfdhghhgeaa
set_option linter.unusedVariables false
set_option linter.unusedSimpArgs false
open Go.RowKit

/-- All variables. -/
def allV : List Int := (List.range 256).map (fun n : Nat => (n : Int))
theorem mem_allV {v : Int} : v ∈ allV ↔ 0 ≤ v ∧ v ≤ 255 := by
  simp only [allV, List.mem_map, List.mem_range]
  constructor
  · rintro ⟨n, hn, rfl⟩; omega
  · rintro ⟨h0, h1⟩; exact ⟨v.toNat, by omega, by omega⟩
theorem allV_rising : allV.Pairwise (· < ·) := by
  unfold allV
  rw [List.pairwise_map]
  exact List.pairwise_lt_range.imp (fun h => by omega)
theorem check_vt {v : Int} (h0 : 0 ≤ v) (h1 : v ≤ 255) : (vt v).check = 0 := by
  have hlt : (-1 - v) < 0 := by omega
  have hok : okB (-1 - v) 0 = true := by unfold okB; rw [if_pos hlt]; simp; omega
  have hb : bad (T.subs 1 (vt v)) = false := by
    show bad (T.subs 1 (.node (-1 - v) [])) = false
    rw [bad_eq]
    show (!okB (-1 - v) 0 || bad []) = false
    rw [hok]
    rfl
  unfold T.check
  rw [hb]
  simp [vt, T.size, T.sizes, T.depth, T.depths]
theorem then_filter {s u : Sb} (P : Int → Bool) : ∀ (L : List Int), (∀ z ∈ L, 0 ≤ z ∧ z ≤ 255) → (∀ z ∈ L, P z = false → thenT s u z = vt z) → thenL s u L = thenL s u (L.filter P) ∧ thenE s u L = thenE s u (L.filter P) := by
  intro L
  induction L with
  | nil => intros; exact ⟨rfl, rfl⟩
  | cons z L ih =>
    intro hb hp
    obtain ⟨h1, h2⟩ := ih (fun y hy => hb y (by simp [hy])) (fun y hy => hp y (by simp [hy]))
    cases hz : P z
    · have e := hp z (by simp) hz
      have hzb := hb z (by simp)
      rw [List.filter_cons_of_neg (by simp [hz]), thenL, thenE, e, if_pos (show (vt z).head = -1 - z from rfl), if_pos (check_vt hzb.1 hzb.2)]
      exact ⟨h1, h2⟩
    · rw [List.filter_cons_of_pos (by simpa using hz), thenL, thenE, thenL, thenE, h1, h2]
      exact ⟨rfl, rfl⟩
theorem unbound_then {s u : Sb} {z : Int} (h0 : 0 ≤ z) (h1 : bnd s z = false) (h2 : bnd u z = false) : thenT s u z = vt z := by
  unfold thenT
  rw [ofS_unbound h1, T.sub_neg (show (vt z).head < 0 from by show -1 - z < 0; omega), show -1 - (vt z).head = z from by show -1 - (-1 - z) = z; omega, ofS_unbound h2]
/-- Over the variables of both it is what it is over all variables. -/
theorem then_allV {s u : Sb} (hs : rightS 0 s = true) (hu : rightS 0 u = true) {vs : List Int} (hv : IsVs s u vs) : thenL s u vs = thenL s u allV ∧ thenE s u vs = thenE s u allV := by
  have hf := then_filter (s := s) (u := u) (fun z => bnd s z || bnd u z) allV (fun z hz => mem_allV.1 hz) (fun z hz h => by
    rw [Bool.or_eq_false_iff] at h
    exact unbound_then (mem_allV.1 hz).1 h.1 h.2)
  have he : allV.filter (fun z => bnd s z || bnd u z) = vs := rising_unique (allV_rising.filter _) hv.1 (fun z => by
    rw [List.mem_filter, hv.2 z, Bool.or_eq_true]
    constructor
    · exact fun h => h.2
    · intro h
      exact ⟨mem_allV.2 (vs_bound hs hu hv ((hv.2 z).2 h)), h⟩)
  rw [he] at hf
  exact ⟨hf.1.symm, hf.2.symm⟩
theorem then_congr {s u s' u' : Sb} : ∀ (L : List Int), (∀ z ∈ L, thenT s u z = thenT s' u' z) → thenL s u L = thenL s' u' L ∧ thenE s u L = thenE s' u' L := by
  intro L
  induction L with
  | nil => intros; exact ⟨rfl, rfl⟩
  | cons z L ih =>
    intro h
    obtain ⟨h1, h2⟩ := ih (fun y hy => h y (by simp [hy]))
    rw [thenL, thenE, thenL, thenE, h z (by simp), h1, h2]
    exact ⟨rfl, rfl⟩
/-- Three, put together one way or the other. -/
theorem then_assoc {s u v a b : Sb} (hs : rightS 0 s = true) (ha : ∀ z, 0 ≤ z → ofS a z = thenT s u z) (hb : ∀ z, 0 ≤ z → ofS b z = thenT u v z) {z : Int} (h0 : 0 ≤ z) (h1 : z ≤ 255) : thenT a v z = thenT s b z := by
  have hg := ofS_good hs h0 h1
  unfold thenT at *
  rw [ha z h0, T.sub_sub]
  exact sub_congr _ _ (Nat.le_refl _) hg.1 (fun y hy _ => (hb y hy).symm)

end Go.Proofs.Ytcbjnfdhghhgeaa
