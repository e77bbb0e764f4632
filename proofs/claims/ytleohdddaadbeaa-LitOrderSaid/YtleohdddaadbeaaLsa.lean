/- Contracts of lit's sameSides, Same and Trivial. -/
import Derived.Test.YtleohdddaadbeaaLm
import Derived.Test.YtleohdddaadbeaaLp
namespace Go.Proofs.Ytleohdddaadbeaa
set_option linter.unusedVariables false
set_option linter.unusedSimpArgs false
open Go.RowKit

set_option maxRecDepth 100000 in
set_option maxHeartbeats 2000000 in
theorem sameSides_any (x y : LV) (hx : x.sz) (n₀ : Nat) (w : World) (hn : n₀ ≤ w.heap.size) (hX : IsLv n₀ w x) (hY : IsLv n₀ w y) :
    Calls Try.prog 42 #[x.v, y.v] w fun e w' => e = .returned (.bool (sidB x.l x.r y.l y.r)) ∧ Below w.heap.size w w' := by
  have d0 := (((((Later.below (Below.refl _ w)).and (later_lv (hY.mono hn))).and (later_lv (hX.mono hn))).pushL (Below.refl _ _) x).pushL (Below.refl _ _) y)
  simp only [heap_alloc_size] at d0
  have D := Lib.hid d0
  have S1 := fun (W : World) (hX : IsLv W.heap.size W x) (hY : IsLv W.heap.size W y) => same_any x.l y.l hx.1 W.heap.size x.pa x.ca y.pa y.ca W (Nat.le_refl _) hX.lw hY.lw hX.la hY.la
  have S2 := fun (W : World) (hX : IsLv W.heap.size W x) (hY : IsLv W.heap.size W y) => same_any x.r y.r hx.2 W.heap.size x.pb x.cb y.pb y.cb W (Nat.le_refl _) hX.rw hY.rw hX.ra hY.ra
  have S3 := fun (W : World) (hX : IsLv W.heap.size W x) (hY : IsLv W.heap.size W y) => same_any x.l y.r hx.1 W.heap.size x.pa x.ca y.pb y.cb W (Nat.le_refl _) hX.lw hY.rw hX.la hY.ra
  have S4 := fun (W : World) (hX : IsLv W.heap.size W x) (hY : IsLv W.heap.size W y) => same_any x.r y.l hx.2 W.heap.size x.pb x.cb y.pa y.ca W (Nat.le_refl _) hX.rw hY.lw hX.ra hY.la
  unfold sidB
  generalize sameB x.l y.l = s1 at S1 ⊢
  generalize sameB x.r y.r = s2 at S2 ⊢
  generalize sameB x.l y.r = s3 at S3 ⊢
  generalize sameB x.r y.l = s4 at S4 ⊢
  have C1 := Lib.hid S1
  have C2 := Lib.hid S2
  have C3 := Lib.hid S3
  have C4 := Lib.hid S4
  clear S1 S2 S3 S4 d0 hX hY
  go_enter Try.func42, Try.ntmps42
  go_wp2_with fail
  generalize (w.alloc x.obj).alloc y.obj = w1 at D ⊢
  generalize hb0 : w.heap.size = b0 at D ⊢
  have HB0 := Lib.hid hb0
  clear hb0
  refine (C1.out w1 D.out.now.2.2.1 D.out.now.2.2.2.1).mono ?_
  rintro e w2 ⟨rfl, hb⟩
  have D2 := Lib.hid (D.out.mv hb)
  clear hb D C1
  obtain ⟨⟨y0, y1, y2, y3, y4⟩, ⟨x0, x1, x2, x3, x4⟩, _⟩ := D2.out.now
  cases s1 with
  | true =>
    go_wp2_with fail
    refine (C2.out w2 D2.out.now.2.2.1 D2.out.now.2.2.2.1).mono ?_
    clear y0 y1 y2 y3 y4 x0 x1 x2 x3 x4
    rintro e w3 ⟨rfl, hb⟩
    have D3 := Lib.hid (D2.out.mv hb)
    clear hb D2 C2
    cases s2 with
    | true =>
      have HQ := Lib.hid D3.out.now.2.2.2.2
      go_wp2
      go_ret
      exact ⟨rfl, by rw [HB0.out]; exact HQ.out⟩
    | false =>
      obtain ⟨⟨y0, y1, y2, y3, y4⟩, ⟨x0, x1, x2, x3, x4⟩, _⟩ := D3.out.now
      go_wp2_with fail
      refine (C3.out w3 D3.out.now.2.2.1 D3.out.now.2.2.2.1).mono ?_
      clear y0 y1 y2 y3 y4 x0 x1 x2 x3 x4
      rintro e w4 ⟨rfl, hb⟩
      have D4 := Lib.hid (D3.out.mv hb)
      clear hb D3 C3
      cases s3 with
      | false =>
        have HQ := Lib.hid D4.out.now.2.2.2.2
        go_wp2
        go_ret
        exact ⟨rfl, by rw [HB0.out]; exact HQ.out⟩
      | true =>
        obtain ⟨⟨y0, y1, y2, y3, y4⟩, ⟨x0, x1, x2, x3, x4⟩, _⟩ := D4.out.now
        go_wp2_with fail
        refine (C4.out w4 D4.out.now.2.2.1 D4.out.now.2.2.2.1).mono ?_
        clear y0 y1 y2 y3 y4 x0 x1 x2 x3 x4
        rintro e w5 ⟨rfl, hb⟩
        have HQ := Lib.hid (D4.out.mv hb).now.2.2.2.2
        clear hb D4 C4
        go_wp2
        go_ret
        exact ⟨by cases s4 <;> rfl, by rw [HB0.out]; exact HQ.out⟩
  | false =>
    go_wp2_with fail
    refine (C3.out w2 D2.out.now.2.2.1 D2.out.now.2.2.2.1).mono ?_
    clear y0 y1 y2 y3 y4 x0 x1 x2 x3 x4
    rintro e w4 ⟨rfl, hb⟩
    have D4 := Lib.hid (D2.out.mv hb)
    clear hb D2 C3
    cases s3 with
    | false =>
      have HQ := Lib.hid D4.out.now.2.2.2.2
      go_wp2
      go_ret
      exact ⟨rfl, by rw [HB0.out]; exact HQ.out⟩
    | true =>
      obtain ⟨⟨y0, y1, y2, y3, y4⟩, ⟨x0, x1, x2, x3, x4⟩, _⟩ := D4.out.now
      go_wp2_with fail
      refine (C4.out w4 D4.out.now.2.2.1 D4.out.now.2.2.2.1).mono ?_
      clear y0 y1 y2 y3 y4 x0 x1 x2 x3 x4
      rintro e w5 ⟨rfl, hb⟩
      have HQ := Lib.hid (D4.out.mv hb).now.2.2.2.2
      clear hb D4 C4
      go_wp2
      go_ret
      exact ⟨by cases s4 <;> rfl, by rw [HB0.out]; exact HQ.out⟩

set_option maxRecDepth 100000 in
set_option maxHeartbeats 2000000 in
theorem litSame_any (x y : LV) (hx : x.sz) (n₀ : Nat) (w : World) (hn : n₀ ≤ w.heap.size) (hX : IsLv n₀ w x) (hY : IsLv n₀ w y) :
    Calls Try.prog 15 #[x.v, y.v] w fun e w' => e = .returned (.bool (samL x.n x.l x.r y.n y.l y.r)) ∧ Below w.heap.size w w' := by
  have hF : Below w.heap.size w ((w.alloc x.obj).alloc y.obj) := ((Below.refl _ w).alloc (Nat.le_refl _) _).alloc (by simp) _
  have S := sameSides_any x y hx n₀ ((w.alloc x.obj).alloc y.obj) (by simp; omega) (hX.below (hF.mono hn)) (hY.below (hF.mono hn))
  unfold samL
  generalize sidB x.l x.r y.l y.r = s at S ⊢
  have C := Lib.hid S
  have HF := Lib.hid hF
  clear S hX hY hF
  obtain ⟨p, hp⟩ : ∃ p, (x.n == y.n) = p := ⟨_, rfl⟩
  rw [hp]
  go_enter Try.func15, Try.ntmps15
  cases p with
  | false =>
    go_wp2
    go_ret
    exact ⟨rfl, HF.out⟩
  | true =>
    go_wp2_with fail
    refine C.out.mono ?_
    rintro e w2 ⟨rfl, hb⟩
    have HB := Lib.hid (HF.out.trans (hb.mono HF.out.size))
    clear hb
    go_wp2
    go_ret
    exact ⟨by cases s <;> rfl, HB.out⟩

set_option maxRecDepth 100000 in
set_option maxHeartbeats 2000000 in
theorem litTrivial_any (x : LV) (hx : x.sz) (n₀ : Nat) (w : World) (hn : n₀ ≤ w.heap.size) (hX : IsLv n₀ w x) :
    Calls Try.prog 20 #[x.v] w fun e w' => e = .returned (.bool (sameB x.l x.r)) ∧ Below w.heap.size w w' := by
  have hF : Below w.heap.size w (w.alloc x.obj) := (Below.refl _ w).alloc (Nat.le_refl _) _
  have hX1 := hX.below (hF.mono hn)
  have C := Lib.hid (same_any x.l x.r hx.1 n₀ x.pa x.ca x.pb x.cb (w.alloc x.obj) (by simp; omega) hX.lw hX.rw hX1.la hX1.ra)
  have HF := Lib.hid hF
  clear hX hF hX1
  go_enter Try.func20, Try.ntmps20
  go_wp2_with fail
  refine C.out.mono ?_
  rintro e w2 ⟨rfl, hb⟩
  have HB := Lib.hid (HF.out.trans (hb.mono HF.out.size))
  clear hb
  go_wp2
  go_ret
  exact ⟨rfl, HB.out⟩

end Go.Proofs.Ytleohdddaadbeaa
