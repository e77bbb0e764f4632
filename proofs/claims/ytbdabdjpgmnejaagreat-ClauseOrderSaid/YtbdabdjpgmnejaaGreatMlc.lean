/- Contracts of clause's without, exceed and multi at literals. -/
import Derived.Test.YtbdabdjpgmnejaaGreatDl
import Derived.Test.YtbdabdjpgmnejaaGreatKw
import Derived.Test.YtbdabdjpgmnejaaGreatQDk
import Derived.Test.YtbdabdjpgmnejaaGreatQDf
namespace Go.Proofs.YtbdabdjpgmnejaaGreat
set_option linter.unusedVariables false
set_option linter.unusedSimpArgs false
open Go.RowKit

theorem sameLB_comm (a b : Lt3) : sameLB a b = sameLB b a := by
  rw [sameLB_rep, sameLB_rep, Bool.eq_iff_iff, beq_iff_eq, beq_iff_eq]; exact eq_comm
/-- The first one that fits is taken away. -/
theorem eraseP_idx {p : Lt3 → Bool} {x : LV} : ∀ {P : List LV} {k : Nat}, P[k]? = some x → p x.t3 = true → (∀ (l : Nat) (y : LV), l < k → P[l]? = some y → p y.t3 = false) → (t3s P).eraseP p = t3s (P.eraseIdx k)
  | [], k, h, _, _ => by simp at h
  | z :: P, 0, h, hp, _ => by
    simp at h; subst h
    show (z.t3 :: t3s P).eraseP p = _
    rw [List.eraseP_cons_of_pos hp]; rfl
  | z :: P, k + 1, h, hp, ho => by
    show (z.t3 :: t3s P).eraseP p = _
    rw [List.eraseP_cons_of_neg (by rw [ho 0 z (by omega) rfl]; decide), eraseP_idx (P := P) (k := k) (by simpa using h) hp (fun l y hl hy => ho (l + 1) y (by omega) (by simpa using hy))]
    rfl
theorem eraseP_none {p : Lt3 → Bool} {P : List LV} (h : ∀ y ∈ P, p y.t3 = false) : (t3s P).eraseP p = t3s P :=
  List.eraseP_of_forall_not (fun a ha => by
    obtain ⟨y, hy, rfl⟩ := List.mem_map.1 ha
    rw [h y hy]; decide)

theorem ownsRow_low {w : World} {base base' : Nat} {e : TypeId} {size : Nat} {v : Value} {n : Nat} {xs : List Value} (h : w.ownsRow base e size v n xs) (hb : base' ≤ base) : w.ownsRow base' e size v n xs :=
  ⟨h.1, h.2.imp id (fun ⟨g, cap, cur, a, b, c⟩ => ⟨g, cap, cur, a, Nat.le_trans hb b, c⟩)⟩

/-! ### without -/
abbrev fnS : Value := .func (.func 23) #[] #[]
set_option maxRecDepth 100000 in
theorem without1_any (x o : LV) (hx : x.sz) (n₀ B1 B2 : Nat) (W : World) (hn : n₀ ≤ W.heap.size) (hX : IsLv n₀ W x) (hO : IsLv n₀ W o) (h1 : B1 < W.heap.size) (h2 : B2 < W.heap.size) (hc : W.cell? ⟨B1, 0, none⟩ = some fnS) (hl : Lc B2 o W) :
    Calls Tryz.prog 94 #[x.v, .pointer (some ⟨B1, 0, none⟩), .pointer (some ⟨B2, 0, none⟩)] W fun e w' => e = .returned (.bool (sameLB o.t3 x.t3)) ∧ Below W.heap.size W w' := by
  obtain ⟨W1, hW1⟩ : ∃ W1, W.alloc x.obj = W1 := ⟨_, rfl⟩
  have hF1 : Below W.heap.size W W1 := by rw [← hW1]; exact (Below.refl _ W).alloc (Nat.le_refl _) _
  obtain ⟨x0, x1, x2, x3, x4⟩ := (show Later (Lc W.heap.size x) W1 from by rw [← hW1]; exact later_lc W x).now
  obtain ⟨l0, l1, l2, l3, l4⟩ := hl
  have c0 : W1.cell? ⟨B1, 0, none⟩ = some fnS := (hF1.cell (p := ⟨B1, 0, none⟩) h1).trans hc
  have k0 := (hF1.cell (p := ⟨B2, 0, none⟩) h2).trans l0
  have k1 := (hF1.cell (p := ⟨B2, 1, none⟩) h2).trans l1
  have k2 := (hF1.cell (p := ⟨B2, 2, none⟩) h2).trans l2
  have k3 := (hF1.cell (p := ⟨B2, 3, none⟩) h2).trans l3
  have k4 := (hF1.cell (p := ⟨B2, 4, none⟩) h2).trans l4
  have HC := Lib.hid (litSame_any x o hx n₀ W1 (Nat.le_trans hn hF1.size) (hX.below (hF1.mono hn)) (hO.below (hF1.mono hn)))
  have HE := Lib.hid (show samL x.n x.l x.r o.n o.l o.r = sameLB o.t3 x.t3 from by rw [sameLB_comm]; rfl)
  have HF1 := Lib.hid hF1
  have eg := enters_of Tryz.func23 (by kernel_rfl) rfl
  clear hX hO hF1 hc l0 l1 l2 l3 l4
  go_enter Tryz.func94, Tryz.ntmps94
  go_wp2_with fail
  refine HC.out.mono ?_
  rintro e w2 ⟨rfl, hb2⟩
  have HB := Lib.hid (HF1.out.trans (hb2.mono HF1.out.size))
  clear hb2
  go_wp2
  go_ret
  exact ⟨by rw [← HE.out]; rfl, HB.out⟩

def WoLI (A B : List LV) (n₀ : Nat) (w1 : World) (v i : Value) (wr : World) : Prop :=
  ∃ (k : Nat) (P : List LV), k ≤ B.length ∧ i = .int .i64 k ∧ t3s P = wiP (t3s A) ((t3s B).take k) ∧ (∀ x ∈ P, x ∈ A) ∧ OL (· < n₀) w1.heap.size v P wr ∧ Below w1.heap.size w1 wr
def WoLPost (A B : List LV) (n₀ : Nat) (w : World) (e : Ending) (w' : World) : Prop :=
  ∃ (P : List LV) (v : Value), e = .returned v ∧ t3s P = wiP (t3s A) (t3s B) ∧ (∀ x ∈ P, x ∈ A) ∧ OL (· < n₀) w.heap.size v P w' ∧ Below w.heap.size w w'

set_option maxRecDepth 100000 in
set_option maxHeartbeats 4000000 in
theorem without_any (A B : List LV) (hla : A.length ≤ 1000000) (hlb : B.length ≤ 1000000) (hsa : ∀ x ∈ A, x.sz) (n₀ : Nat) (pa : Option Addr) (ca : Nat) (pb : Option Addr) (cb : Nat) (w : World) (hn : n₀ ≤ w.heap.size) (hA : IsCl n₀ w A pa ca) (hB : IsCl n₀ w B pb cb) :
    Calls Tryz.prog 52 #[.slice pa A.length ca, .slice pb B.length cb, fnS] w (WoLPost A B n₀ w) := by
  have hlc : B.length ≤ cb ∧ cb ≤ maxLen := ⟨hB.1, hB.2.1⟩
  unfold maxLen at hlc
  obtain ⟨hl1, hl2⟩ := hlc
  obtain ⟨W1, hW1⟩ : ∃ W1, w.alloc (.cells #[fnS] 48) = W1 := ⟨_, rfl⟩
  have hs1 : W1.heap.size = w.heap.size + 1 := by rw [← hW1]; simp
  have hF1 : Below w.heap.size w W1 := by rw [← hW1]; exact (Below.refl _ w).alloc (Nat.le_refl _) _
  have hg1 : W1.cell? ⟨w.heap.size, 0, none⟩ = some fnS := by rw [← hW1]; simp [go_sem]
  have CL := Lib.hid (cloneL_any A hla n₀ pa ca W1 (by omega) (hA.below (hF1.mono hn)))
  have HB := Lib.hid (hB.below (hF1.mono hn))
  have HF1 := Lib.hid hF1
  have HG1 := Lib.hid hg1
  have HSA := Lib.hid hsa
  have HS1 := Lib.hid hs1
  have HN := Lib.hid (show n₀ ≤ W1.heap.size from by omega)
  have eg := enters_of Tryz.func94 (by kernel_rfl) rfl
  clear hA hB hF1 hg1 hsa hs1
  go_enter Tryz.func52, Tryz.ntmps52
  go_wp2_with fail
  refine CL.out.mono ?_
  rintro e w2 ⟨v, rfl, hO, hb2⟩
  have HO0 := Lib.hid hO
  have HB2 := Lib.hid hb2
  clear hO hb2 hW1
  go_wp2
  go_loopw [7, 15] (fun v i wr => WoLI A B n₀ W1 v i wr) (fun _ i _ => B.length - (intOf i).toNat)
  case atStart => exact ⟨0, A, Nat.zero_le _, rfl, rfl, fun _ h => h, HO0.out, HB2.out⟩
  case round =>
    obtain ⟨k, P, hk, rfl, hP, hPA, hO, hBk⟩ := hrel
    have HP := Lib.hid hP
    have HPA := Lib.hid hPA
    have HO := Lib.hid hO
    have HBk := Lib.hid hBk
    have hbz := hBk.size
    have hok : ∀ b, b < n₀ → b < wr.heap.size := fun b hb => by have := HN.out; omega
    obtain ⟨pv, cv, rfl, hcl⟩ := hO.args hok
    have HCL := Lib.hid hcl
    have hpl : P.length ≤ A.length := by
      have h1 := congrArg List.length hP
      have h2 := wiP_length ((t3s B).take k) (t3s A)
      rw [← h1] at h2
      simpa using h2
    have HPL := Lib.hid hpl
    clear hP hPA hO hBk hok hcl hpl HO0 HB2
    by_cases hlt : k < B.length
    · obtain ⟨b, o, x, rfl, hbn, hx, ⟨a0, a1, a2, a3, a4⟩, hxl⟩ := (HB.out.below (HBk.out.mono HN.out)).elem (i := k) hlt
      have hk0 : (0 : Int) ≤ (k : Int) := Int.natCast_nonneg _
      have hk1 : (k : Int) < (B.length : Int) := by omega
      have hnn := HN.out
      have hbw : b < wr.heap.size := by omega
      obtain ⟨W2, hW2⟩ : ∃ W2, wr.alloc x.obj = W2 := ⟨_, rfl⟩
      have hs2 : W2.heap.size = wr.heap.size + 1 := by rw [← hW2]; simp
      have hF2 : Below wr.heap.size wr W2 := by rw [← hW2]; exact (Below.refl _ wr).alloc (Nat.le_refl _) _
      have L2 := (show Later (Lc wr.heap.size x) W2 from by rw [← hW2]; exact later_lc wr x)
      have hB2 : Below W1.heap.size W1 W2 := HBk.out.trans (hF2.mono hbz)
      have hO2 : OL (· < n₀) W1.heap.size (.slice pv P.length cv) P W2 := HO.out.later (fun b hb => by have : b < n₀ := hb; omega) hF2
      have HC := Lib.hid (indexL_any (sameLB x.t3) 94 #[.pointer (some ⟨w.heap.size, 0, none⟩), .pointer (some ⟨wr.heap.size, 0, none⟩)] eg P W2.heap.size pv cv W2 (Nat.le_refl _) ((HCL.out.below hF2).mono hF2.size)
        (fun X t ht hX htl => by
          have hz := HS1.out
          have hXz := hX.size
          exact without1_any t x (HSA.out t (HPA.out t ht)) W2.heap.size w.heap.size wr.heap.size X hXz htl ((hxl.below ((hF2.trans (hX.mono (by omega))).mono (by omega))).mono (by omega)) (by omega) (by omega)
            (((hB2.trans (hX.mono hB2.size)).cell (p := ⟨w.heap.size, 0, none⟩) (by show w.heap.size < W1.heap.size; omega)).trans HG1.out) (L2.mv hX).now))
      have HO2 := Lib.hid hO2
      have HB2 := Lib.hid hB2
      have HX := Lib.hid (show wiP (t3s A) ((t3s B).take (k + 1)) = (t3s P).eraseP (sameLB x.t3) from by rw [HP.out]; exact wiP_take (t3s_get hx))
      clear hx hxl hF2 L2 hB2 hO2 eg
      go_wp2_with fail
      refine HC.out.mono ?_
      rintro e w3 ⟨j, rfl, hj, hb3⟩
      have HB3 := Lib.hid (HB2.out.trans (hb3.mono HB2.out.size))
      have hO3 : OL (· < n₀) W1.heap.size (.slice pv P.length cv) P w3 := HO2.out.later (fun b hb => by have : b < n₀ := hb; have := HB2.out.size; omega) hb3
      have HO3 := Lib.hid hO3
      clear hb3 hO3
      rcases hj with ⟨rfl, hj⟩ | ⟨m, y, rfl, hy, hys, hyo⟩
      · have HR := Lib.hid (show t3s P = wiP (t3s A) ((t3s B).take (k + 1)) from by rw [HX.out, eraseP_none hj])
        clear hj
        go_wp2
        go_roundw
        case rel => exact ⟨k + 1, P, by omega, by go_num, HR.out, HPA.out, HO3.out, HB3.out⟩
        case measure => simp [intOf]; omega
      · have hm0 : (0 : Int) ≤ (m : Int) := Int.natCast_nonneg _
        have hmP : m < P.length := (List.getElem?_eq_some_iff.1 hy).1
        have hmk : (m : Int) ≤ 1000000 := by have := HPL.out; omega
        have HR := Lib.hid (show t3s (P.eraseIdx m) = wiP (t3s A) ((t3s B).take (k + 1)) from by rw [HX.out, eraseP_idx hy hys hyo])
        have CD := Lib.hid (deleteL_any P m hmP (by have := HPL.out; omega) (· < n₀) W1.heap.size (.slice pv P.length cv) w3 HO3.out (fun b hb => ⟨by have : b < n₀ := hb; have := HB3.out.size; omega, fun e => by have h1 := (HO3.out.block e).1; have : b < n₀ := hb; omega⟩))
        clear hy hys hyo hmP
        go_wp2_with fail
        refine CD.out.mono ?_
        rintro e w4 ⟨v', rfl, hO4, hv4, hg4⟩
        have HB4 := Lib.hid (HB3.out.trans ((Below.refl _ w3).grown hg4 HB3.out.size (fun g hg => (HO3.out.block hg).1)))
        have HO4 := Lib.hid hO4
        have HPE := Lib.hid (show ∀ x ∈ P.eraseIdx m, x ∈ A from fun x hx => HPA.out x ((List.eraseIdx_sublist P m).subset hx))
        obtain ⟨pv', cv', rfl, _⟩ := hO4.args (fun b hb => by have : b < n₀ := hb; have := HB4.out.size; omega)
        clear hO4 hv4 hg4
        go_wp2
        go_roundw
        case rel => exact ⟨k + 1, P.eraseIdx m, by omega, by go_num, HR.out, HPE.out, HO4.out, HB4.out⟩
        case measure => simp [intOf]; omega
    · obtain rfl : k = B.length := by omega
      have HR := Lib.hid (show t3s P = wiP (t3s A) (t3s B) from by rw [HP.out]; congr 1; exact List.take_of_length_le (by simp))
      have HO5 := Lib.hid (show OL (· < n₀) w.heap.size (.slice pv P.length cv) P wr from ⟨ownsRow_low HO.out.1 (by have := HS1.out; omega), HO.out.2⟩)
      go_wp2
      go_ret
      exact ⟨P, _, rfl, HR.out, HPA.out, HO5.out, HF1.out.trans (HBk.out.mono HF1.out.size)⟩

/-! ### exceed -/
/-- What is asked of a comparison. -/
def CmpL (f : Nat) (lb : Array Value) (r : Lt3 → Lt3 → Int) (ok : LV → Prop) (n₀ : Nat) (w : World) : Prop :=
  ∀ (W : World) (x y : LV), ok x → ok y → n₀ ≤ W.heap.size → Below w.heap.size w W → IsLv n₀ W x → IsLv n₀ W y → Calls Tryz.prog f (#[x.v, y.v] ++ lb) W fun e w' => e = .returned (.int .i64 (r x.t3 y.t3)) ∧ Below W.heap.size W w'
def exR (r : Lt3 → Lt3 → Int) (x y : List Lt3) : Bool := y.all fun u => x.any fun t => decide (r t u = 1)

set_option maxRecDepth 100000 in
theorem exceedL1_any (f : Nat) (lb : Array Value) (eg : ∀ args w, (callFunc f args).run Tryz.prog w = .ok (.enter f args) w) (r : Lt3 → Lt3 → Int) (ok : LV → Prop) (x o : LV) (hx : ok x) (ho : ok o) (n₀ B1 B2 : Nat) (W : World) (hn : n₀ ≤ W.heap.size) (hX : IsLv n₀ W x) (hO : IsLv n₀ W o) (h1 : B1 < W.heap.size) (h2 : B2 < W.heap.size) (hc : W.cell? ⟨B1, 0, none⟩ = some (.func (.func f) #[] lb)) (hl : Lc B2 o W)
    (hp : CmpL f lb r ok n₀ W) :
    Calls Tryz.prog 96 #[x.v, .pointer (some ⟨B1, 0, none⟩), .pointer (some ⟨B2, 0, none⟩)] W fun e w' => e = .returned (.bool (decide (r x.t3 o.t3 = 1))) ∧ Below W.heap.size W w' := by
  obtain ⟨W1, hW1⟩ : ∃ W1, W.alloc x.obj = W1 := ⟨_, rfl⟩
  have hF1 : Below W.heap.size W W1 := by rw [← hW1]; exact (Below.refl _ W).alloc (Nat.le_refl _) _
  obtain ⟨x0, x1, x2, x3, x4⟩ := (show Later (Lc W.heap.size x) W1 from by rw [← hW1]; exact later_lc W x).now
  obtain ⟨l0, l1, l2, l3, l4⟩ := hl
  have c0 : W1.cell? ⟨B1, 0, none⟩ = some (.func (.func f) #[] lb) := (hF1.cell (p := ⟨B1, 0, none⟩) h1).trans hc
  have k0 := (hF1.cell (p := ⟨B2, 0, none⟩) h2).trans l0
  have k1 := (hF1.cell (p := ⟨B2, 1, none⟩) h2).trans l1
  have k2 := (hF1.cell (p := ⟨B2, 2, none⟩) h2).trans l2
  have k3 := (hF1.cell (p := ⟨B2, 3, none⟩) h2).trans l3
  have k4 := (hF1.cell (p := ⟨B2, 4, none⟩) h2).trans l4
  have HC := Lib.hid (hp W1 x o hx ho (Nat.le_trans hn hF1.size) hF1 (hX.below (hF1.mono hn)) (hO.below (hF1.mono hn)))
  have HF1 := Lib.hid hF1
  clear hX hO hF1 hc l0 l1 l2 l3 l4 hp
  go_enter Tryz.func96, Tryz.ntmps96
  go_wp2_with (go_at_fn f; refine HC.out.mono ?_; rintro e w2 ⟨rfl, hb2⟩)
  have HB := Lib.hid (HF1.out.trans (hb2.mono HF1.out.size))
  clear hb2 HC
  generalize r x.t3 o.t3 = q
  by_cases h : q = 1
  · subst h
    go_wp2
    go_ret
    exact ⟨rfl, HB.out⟩
  · have h' : (q == 1) = false := by simpa using h
    go_wp2
    go_ret
    exact ⟨by simp [h], HB.out⟩

def ExL (r : Lt3 → Lt3 → Int) (high low : List LV) (W1 : World) (i : Value) (wr : World) : Prop := ∃ k : Nat, k ≤ low.length ∧ i = .int .i64 (k : Nat) ∧ exR r (t3s high) (t3s low) = exR r (t3s high) (t3s (low.drop k)) ∧ Below W1.heap.size W1 wr

set_option maxRecDepth 100000 in
set_option maxHeartbeats 4000000 in
theorem exceedL_any (f : Nat) (lb : Array Value) (eg' : ∀ args w, (callFunc f args).run Tryz.prog w = .ok (.enter f args) w) (r : Lt3 → Lt3 → Int) (ok : LV → Prop) (high low : List LV) (hh : ∀ x ∈ high, ok x) (hlo : ∀ x ∈ low, ok x) (n₀ : Nat) (pa : Option Addr) (ca : Nat) (pb : Option Addr) (cb : Nat) (w : World) (hn : n₀ ≤ w.heap.size) (hA : IsCl n₀ w high pa ca) (hB : IsCl n₀ w low pb cb)
    (hp : ∀ n, n₀ ≤ n → CmpL f lb r ok n w) :
    Calls Tryz.prog 53 #[.slice pa high.length ca, .slice pb low.length cb, .func (.func f) #[] lb] w fun e w' => e = .returned (.bool (exR r (t3s high) (t3s low))) ∧ Below w.heap.size w w' := by
  have hlc : low.length ≤ cb ∧ cb ≤ maxLen := ⟨hB.1, hB.2.1⟩
  unfold maxLen at hlc
  obtain ⟨hl1, hl2⟩ := hlc
  obtain ⟨W1, hW1⟩ : ∃ W1, w.alloc (.cells #[.func (.func f) #[] lb] 50) = W1 := ⟨_, rfl⟩
  have hs1 : W1.heap.size = w.heap.size + 1 := by rw [← hW1]; simp
  have hF1 : Below w.heap.size w W1 := by rw [← hW1]; exact (Below.refl _ w).alloc (Nat.le_refl _) _
  have hg1 : W1.cell? ⟨w.heap.size, 0, none⟩ = some (.func (.func f) #[] lb) := by rw [← hW1]; simp [go_sem]
  have HA := Lib.hid (hA.below (hF1.mono hn))
  have HB := Lib.hid (hB.below (hF1.mono hn))
  have HP := Lib.hid (show ∀ n W, n₀ ≤ n → Below W1.heap.size W1 W → CmpL f lb r ok n W from fun n W h1 hW X x y hx hy h0 hX hxl hyl => hp n h1 X x y hx hy h0 (hF1.trans ((hW.trans (hX.mono hW.size)).mono hF1.size)) hxl hyl)
  have HF1 := Lib.hid hF1
  have HHL := Lib.hid (And.intro hh hlo)
  have HN := Lib.hid (show n₀ ≤ W1.heap.size from by omega)
  have HS1 := Lib.hid hs1
  have eg := enters_of Tryz.func96 (by kernel_rfl) rfl
  clear hA hB hF1 hh hlo hp
  go_enter Tryz.func53, Tryz.ntmps53
  go_wp2
  clear hW1
  go_loopw [11] (fun i wr => ExL r high low W1 i wr) (fun i _ => low.length - (intOf i).toNat)
  case atStart => exact ⟨0, Nat.zero_le _, rfl, by simp, Below.refl _ _⟩
  case round =>
    obtain ⟨k, hk, rfl, hE, hBk⟩ := hrel
    have HE := Lib.hid hE
    have HBk := Lib.hid hBk
    have hbz := hBk.size
    clear hE hBk
    by_cases hlt : k < low.length
    · obtain ⟨b, o, x, rfl, hbn, hx, ⟨a0, a1, a2, a3, a4⟩, hxl⟩ := (HB.out.below (HBk.out.mono HN.out)).elem (i := k) hlt
      have hk0 : (0 : Int) ≤ (k : Int) := Int.natCast_nonneg _
      have hk1 : (k : Int) < (low.length : Int) := by omega
      have hnn := HN.out
      have hbw : b < wr.heap.size := by omega
      obtain ⟨W2, hW2⟩ : ∃ W2, wr.alloc x.obj = W2 := ⟨_, rfl⟩
      have hs2 : W2.heap.size = wr.heap.size + 1 := by rw [← hW2]; simp
      have hF2 : Below wr.heap.size wr W2 := by rw [← hW2]; exact (Below.refl _ wr).alloc (Nat.le_refl _) _
      have L2 := (show Later (Lc wr.heap.size x) W2 from by rw [← hW2]; exact later_lc wr x)
      have hB2 : Below W1.heap.size W1 W2 := HBk.out.trans (hF2.mono hbz)
      have hmem := List.mem_of_getElem? hx
      have HC := Lib.hid (containsL_any (fun t => decide (r t x.t3 = 1)) 96 #[.pointer (some ⟨w.heap.size, 0, none⟩), .pointer (some ⟨wr.heap.size, 0, none⟩)] eg high n₀ pa ca W2 (by omega) (HA.out.below (hB2.mono hnn))
        (fun X t ht hX htl => by
          have hz := HS1.out
          have hXz := hX.size
          have hBX : Below W1.heap.size W1 X := hB2.trans (hX.mono hB2.size)
          exact exceedL1_any f lb eg' r ok t x (HHL.out.1 t ht) (HHL.out.2 x hmem) n₀ w.heap.size wr.heap.size X (by omega) htl (hxl.below ((hF2.trans (hX.mono (by omega))).mono (by omega))) (by omega) (by omega)
            ((hBX.cell (p := ⟨w.heap.size, 0, none⟩) (by show w.heap.size < W1.heap.size; omega)).trans hg1) (L2.mv hX).now (HP.out n₀ X (Nat.le_refl _) hBX)))
      have hst : exR r (t3s high) (t3s (low.drop k)) = (((t3s high).any fun t => decide (r t x.t3 = 1)) && exR r (t3s high) (t3s (low.drop (k + 1)))) := by
        obtain ⟨hkl, hke⟩ := List.getElem?_eq_some_iff.1 hx
        rw [List.drop_eq_getElem_cons hkl, hke]; rfl
      have HST := Lib.hid hst
      have HB2 := Lib.hid hB2
      clear hx hxl hst hF2 L2 hB2 hmem eg
      go_wp2_with fail
      refine HC.out.mono ?_
      rintro e w3 ⟨rfl, hb3⟩
      have HB3 := Lib.hid (HB2.out.trans (hb3.mono HB2.out.size))
      clear hb3
      obtain ⟨q, hq⟩ : ∃ q, ((t3s high).any fun t => decide (r t x.t3 = 1)) = q := ⟨_, rfl⟩
      rw [hq] at HST ⊢
      clear hq HC
      cases q with
      | true =>
        have HN2 := Lib.hid (show exR r (t3s high) (t3s low) = exR r (t3s high) (t3s (low.drop (k + 1))) from by rw [HE.out, HST.out]; rfl)
        go_wp2
        go_roundw
        case rel => exact ⟨k + 1, by omega, by go_num, HN2.out, HB3.out⟩
        case measure => simp [intOf]; omega
      | false =>
        have HN2 := Lib.hid (show exR r (t3s high) (t3s low) = false from by rw [HE.out, HST.out]; rfl)
        go_wp2
        go_ret
        exact ⟨by rw [HN2.out]; rfl, HF1.out.trans (HB3.out.mono HF1.out.size)⟩
    · obtain rfl : k = low.length := by omega
      have HN2 := Lib.hid (show exR r (t3s high) (t3s low) = true from by rw [HE.out, List.drop_of_length_le (Nat.le_refl _)]; rfl)
      go_wp2
      go_ret
      exact ⟨by rw [HN2.out]; rfl, HF1.out.trans (HBk.out.mono HF1.out.size)⟩

end Go.Proofs.YtbdabdjpgmnejaaGreat
