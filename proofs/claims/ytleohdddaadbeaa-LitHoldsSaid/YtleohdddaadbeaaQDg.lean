/- QDg: joined of Lsa, Lso, Rsa, Rso, FewS, Rv1. -/
import Derived.Test.YtleohdddaadbeaaQDa
import Derived.Test.YtleohdddaadbeaaRef
import Derived.Test.YtleohdddaadbeaaQDe
import Derived.Test.YtleohdddaadbeaaQBd
import Derived.Test.YtleohdddaadbeaaQBk
import Derived.Test.YtleohdddaadbeaaQBo
/- Contracts of lit's sameSides, Same and Trivial. -/
namespace Go.Proofs.Ytleohdddaadbeaa
set_option linter.unusedVariables false
set_option linter.unusedSimpArgs false
open Go.RowKit

set_option maxRecDepth 100000 in
set_option maxHeartbeats 2000000 in
theorem sameSides_any (x y : LV) (hx : x.sz) (n₀ : Nat) (w : World) (hn : n₀ ≤ w.heap.size) (hX : IsLv n₀ w x) (hY : IsLv n₀ w y) :
    Calls Try.prog 42 #[x.v, y.v] w fun e w' => e = .returned (.bool (sidB x.l x.r y.l y.r)) ∧ Below w.heap.size w w' := by
  have d0 := (((((Later.below (Below.refl _ w)).and (later_lv (hY.mono hn))).and (later_lv (hX.mono hn))).pushL (Below.refl _ _) x).pushL (Below.refl _ _) y)
  simp only [heap_alloc_size] at d0
  have D := Lib.hid d0
  have S1 := fun (W : World) (hX : IsLv W.heap.size W x) (hY : IsLv W.heap.size W y) => same_any x.l y.l hx.1 W.heap.size x.pa x.ca y.pa y.ca W (Nat.le_refl _) hX.lw hY.lw hX.la hY.la
  have S2 := fun (W : World) (hX : IsLv W.heap.size W x) (hY : IsLv W.heap.size W y) => same_any x.r y.r hx.2 W.heap.size x.pb x.cb y.pb y.cb W (Nat.le_refl _) hX.rw hY.rw hX.ra hY.ra
  have S3 := fun (W : World) (hX : IsLv W.heap.size W x) (hY : IsLv W.heap.size W y) => same_any x.l y.r hx.1 W.heap.size x.pa x.ca y.pb y.cb W (Nat.le_refl _) hX.lw hY.rw hX.la hY.ra
  have S4 := fun (W : World) (hX : IsLv W.heap.size W x) (hY : IsLv W.heap.size W y) => same_any x.r y.l hx.2 W.heap.size x.pb x.cb y.pa y.ca W (Nat.le_refl _) hX.rw hY.lw hX.ra hY.la
  unfold sidB
  generalize sameB x.l y.l = s1 at S1 ⊢
  generalize sameB x.r y.r = s2 at S2 ⊢
  generalize sameB x.l y.r = s3 at S3 ⊢
  generalize sameB x.r y.l = s4 at S4 ⊢
  have C1 := Lib.hid S1
  have C2 := Lib.hid S2
  have C3 := Lib.hid S3
  have C4 := Lib.hid S4
  clear S1 S2 S3 S4 d0 hX hY
  go_enter Try.func42, Try.ntmps42
  go_wp2_with fail
  generalize (w.alloc x.obj).alloc y.obj = w1 at D ⊢
  generalize hb0 : w.heap.size = b0 at D ⊢
  have HB0 := Lib.hid hb0
  clear hb0
  refine (C1.out w1 D.out.now.2.2.1 D.out.now.2.2.2.1).mono ?_
  rintro e w2 ⟨rfl, hb⟩
  have D2 := Lib.hid (D.out.mv hb)
  clear hb D C1
  obtain ⟨⟨y0, y1, y2, y3, y4⟩, ⟨x0, x1, x2, x3, x4⟩, _⟩ := D2.out.now
  cases s1 with
  | true =>
    go_wp2_with fail
    refine (C2.out w2 D2.out.now.2.2.1 D2.out.now.2.2.2.1).mono ?_
    clear y0 y1 y2 y3 y4 x0 x1 x2 x3 x4
    rintro e w3 ⟨rfl, hb⟩
    have D3 := Lib.hid (D2.out.mv hb)
    clear hb D2 C2
    cases s2 with
    | true =>
      have HQ := Lib.hid D3.out.now.2.2.2.2
      go_wp2
      go_ret
      exact ⟨rfl, by rw [HB0.out]; exact HQ.out⟩
    | false =>
      obtain ⟨⟨y0, y1, y2, y3, y4⟩, ⟨x0, x1, x2, x3, x4⟩, _⟩ := D3.out.now
      go_wp2_with fail
      refine (C3.out w3 D3.out.now.2.2.1 D3.out.now.2.2.2.1).mono ?_
      clear y0 y1 y2 y3 y4 x0 x1 x2 x3 x4
      rintro e w4 ⟨rfl, hb⟩
      have D4 := Lib.hid (D3.out.mv hb)
      clear hb D3 C3
      cases s3 with
      | false =>
        have HQ := Lib.hid D4.out.now.2.2.2.2
        go_wp2
        go_ret
        exact ⟨rfl, by rw [HB0.out]; exact HQ.out⟩
      | true =>
        obtain ⟨⟨y0, y1, y2, y3, y4⟩, ⟨x0, x1, x2, x3, x4⟩, _⟩ := D4.out.now
        go_wp2_with fail
        refine (C4.out w4 D4.out.now.2.2.1 D4.out.now.2.2.2.1).mono ?_
        clear y0 y1 y2 y3 y4 x0 x1 x2 x3 x4
        rintro e w5 ⟨rfl, hb⟩
        have HQ := Lib.hid (D4.out.mv hb).now.2.2.2.2
        clear hb D4 C4
        go_wp2
        go_ret
        exact ⟨by cases s4 <;> rfl, by rw [HB0.out]; exact HQ.out⟩
  | false =>
    go_wp2_with fail
    refine (C3.out w2 D2.out.now.2.2.1 D2.out.now.2.2.2.1).mono ?_
    clear y0 y1 y2 y3 y4 x0 x1 x2 x3 x4
    rintro e w4 ⟨rfl, hb⟩
    have D4 := Lib.hid (D2.out.mv hb)
    clear hb D2 C3
    cases s3 with
    | false =>
      have HQ := Lib.hid D4.out.now.2.2.2.2
      go_wp2
      go_ret
      exact ⟨rfl, by rw [HB0.out]; exact HQ.out⟩
    | true =>
      obtain ⟨⟨y0, y1, y2, y3, y4⟩, ⟨x0, x1, x2, x3, x4⟩, _⟩ := D4.out.now
      go_wp2_with fail
      refine (C4.out w4 D4.out.now.2.2.1 D4.out.now.2.2.2.1).mono ?_
      clear y0 y1 y2 y3 y4 x0 x1 x2 x3 x4
      rintro e w5 ⟨rfl, hb⟩
      have HQ := Lib.hid (D4.out.mv hb).now.2.2.2.2
      clear hb D4 C4
      go_wp2
      go_ret
      exact ⟨by cases s4 <;> rfl, by rw [HB0.out]; exact HQ.out⟩

set_option maxRecDepth 100000 in
set_option maxHeartbeats 2000000 in
theorem litSame_any (x y : LV) (hx : x.sz) (n₀ : Nat) (w : World) (hn : n₀ ≤ w.heap.size) (hX : IsLv n₀ w x) (hY : IsLv n₀ w y) :
    Calls Try.prog 15 #[x.v, y.v] w fun e w' => e = .returned (.bool (samL x.n x.l x.r y.n y.l y.r)) ∧ Below w.heap.size w w' := by
  have hF : Below w.heap.size w ((w.alloc x.obj).alloc y.obj) := ((Below.refl _ w).alloc (Nat.le_refl _) _).alloc (by simp) _
  have S := sameSides_any x y hx n₀ ((w.alloc x.obj).alloc y.obj) (by simp; omega) (hX.below (hF.mono hn)) (hY.below (hF.mono hn))
  unfold samL
  generalize sidB x.l x.r y.l y.r = s at S ⊢
  have C := Lib.hid S
  have HF := Lib.hid hF
  clear S hX hY hF
  obtain ⟨p, hp⟩ : ∃ p, (x.n == y.n) = p := ⟨_, rfl⟩
  rw [hp]
  go_enter Try.func15, Try.ntmps15
  cases p with
  | false =>
    go_wp2
    go_ret
    exact ⟨rfl, HF.out⟩
  | true =>
    go_wp2_with fail
    refine C.out.mono ?_
    rintro e w2 ⟨rfl, hb⟩
    have HB := Lib.hid (HF.out.trans (hb.mono HF.out.size))
    clear hb
    go_wp2
    go_ret
    exact ⟨by cases s <;> rfl, HB.out⟩

set_option maxRecDepth 100000 in
set_option maxHeartbeats 2000000 in
theorem litTrivial_any (x : LV) (hx : x.sz) (n₀ : Nat) (w : World) (hn : n₀ ≤ w.heap.size) (hX : IsLv n₀ w x) :
    Calls Try.prog 20 #[x.v] w fun e w' => e = .returned (.bool (sameB x.l x.r)) ∧ Below w.heap.size w w' := by
  have hF : Below w.heap.size w (w.alloc x.obj) := (Below.refl _ w).alloc (Nat.le_refl _) _
  have hX1 := hX.below (hF.mono hn)
  have C := Lib.hid (same_any x.l x.r hx.1 n₀ x.pa x.ca x.pb x.cb (w.alloc x.obj) (by simp; omega) hX.lw hX.rw hX1.la hX1.ra)
  have HF := Lib.hid hF
  clear hX hF hX1
  go_enter Try.func20, Try.ntmps20
  go_wp2_with fail
  refine C.out.mono ?_
  rintro e w2 ⟨rfl, hb⟩
  have HB := Lib.hid (HF.out.trans (hb.mono HF.out.size))
  clear hb
  go_wp2
  go_ret
  exact ⟨rfl, HB.out⟩

end Go.Proofs.Ytleohdddaadbeaa

/- Contract of lit's Opposite. -/
namespace Go.Proofs.Ytleohdddaadbeaa
set_option linter.unusedVariables false
set_option linter.unusedSimpArgs false
open Go.RowKit

set_option maxRecDepth 100000 in
set_option maxHeartbeats 2000000 in
theorem litOpposite_any (x y : LV) (hx : x.sz) (n₀ : Nat) (w : World) (hn : n₀ ≤ w.heap.size) (hX : IsLv n₀ w x) (hY : IsLv n₀ w y) :
    Calls Try.prog 17 #[x.v, y.v] w fun e w' => e = .returned (.bool (oppL x.n x.l x.r y.n y.l y.r)) ∧ Below w.heap.size w w' := by
  have hF : Below w.heap.size w ((w.alloc x.obj).alloc y.obj) := ((Below.refl _ w).alloc (Nat.le_refl _) _).alloc (by simp) _
  have S := sameSides_any x y hx n₀ ((w.alloc x.obj).alloc y.obj) (by simp; omega) (hX.below (hF.mono hn)) (hY.below (hF.mono hn))
  unfold oppL
  generalize sidB x.l x.r y.l y.r = s at S ⊢
  have C := Lib.hid S
  have HF := Lib.hid hF
  clear S hX hY hF
  clear hx hn
  obtain ⟨xn, xl, xr, xpa, xca, xpb, xcb⟩ := x
  obtain ⟨yn, yl, yr, ypa, yca, ypb, ycb⟩ := y
  go_enter Try.func17, Try.ntmps17
  rcases xn with _ | _ <;> rcases yn with _ | _
  · go_wp2
    go_ret
    exact ⟨rfl, HF.out⟩
  · go_wp2_with fail
    refine C.out.mono ?_
    rintro e w2 ⟨rfl, hb⟩
    have HB := Lib.hid (HF.out.trans (hb.mono HF.out.size))
    clear hb
    go_wp2
    go_ret
    exact ⟨by cases s <;> rfl, HB.out⟩
  · go_wp2_with fail
    refine C.out.mono ?_
    rintro e w2 ⟨rfl, hb⟩
    have HB := Lib.hid (HF.out.trans (hb.mono HF.out.size))
    clear hb
    go_wp2
    go_ret
    exact ⟨by cases s <;> rfl, HB.out⟩
  · go_wp2
    go_ret
    exact ⟨rfl, HF.out⟩

end Go.Proofs.Ytleohdddaadbeaa

/- Contracts of the document's answer: sides, Same, Exact, Trivial and Few of literals (layer 9). -/
namespace Go.Proofs.Ytleohdddaadbeaa
set_option linter.unusedVariables false
set_option linter.unusedSimpArgs false
open Go.RowKit

theorem rSame_any (x y : T) (hx : x.size ≤ 1000000000000) (hy : y.size ≤ 1000000000000) (n₀ : Nat) (a : Option Addr) (c : Nat) (a' : Option Addr) (c' : Nat) (w : World) (hn : n₀ ≤ w.heap.size) (hA : IsArgs n₀ w x.args a c) (hB : IsArgs n₀ w y.args a' c') :
    Calls Try.prog 44 #[tm x.head a x.args.length c, tm y.head a' y.args.length c'] w fun e w' => e = .returned (.bool (sameB x y)) ∧ Below w.heap.size w w' := by
  refine (refSame_any x y hx hy n₀ a c a' c' w hn hA hB).mono fun e w' h => ⟨?_, h.2⟩
  rw [h.1, show decide (T.cmp x y = 0) = sameB x y from by rw [Bool.eq_iff_iff, decide_eq_true_eq, T.cmp_zero, sameB_iff]]

set_option maxRecDepth 100000 in
set_option maxHeartbeats 2000000 in
theorem rSides_any (x y : LV) (hx : x.sz) (hy : y.sz) (n₀ : Nat) (w : World) (hn : n₀ ≤ w.heap.size) (hX : IsLv n₀ w x) (hY : IsLv n₀ w y) :
    Calls Try.prog 43 #[x.v, y.v] w fun e w' => e = .returned (.bool (sidB x.l x.r y.l y.r)) ∧ Below w.heap.size w w' := by
  have d0 := (((((Later.below (Below.refl _ w)).and (later_lv (hY.mono hn))).and (later_lv (hX.mono hn))).pushL (Below.refl _ _) x).pushL (Below.refl _ _) y)
  simp only [heap_alloc_size] at d0
  have D := Lib.hid d0
  have S1 := fun (W : World) (hX : IsLv W.heap.size W x) (hY : IsLv W.heap.size W y) => rSame_any x.l y.l hx.1 hy.1 W.heap.size x.pa x.ca y.pa y.ca W (Nat.le_refl _) hX.la hY.la
  have S2 := fun (W : World) (hX : IsLv W.heap.size W x) (hY : IsLv W.heap.size W y) => rSame_any x.r y.r hx.2 hy.2 W.heap.size x.pb x.cb y.pb y.cb W (Nat.le_refl _) hX.ra hY.ra
  have S3 := fun (W : World) (hX : IsLv W.heap.size W x) (hY : IsLv W.heap.size W y) => rSame_any x.l y.r hx.1 hy.2 W.heap.size x.pa x.ca y.pb y.cb W (Nat.le_refl _) hX.la hY.ra
  have S4 := fun (W : World) (hX : IsLv W.heap.size W x) (hY : IsLv W.heap.size W y) => rSame_any x.r y.l hx.2 hy.1 W.heap.size x.pb x.cb y.pa y.ca W (Nat.le_refl _) hX.ra hY.la
  unfold sidB
  generalize sameB x.l y.l = s1 at S1 ⊢
  generalize sameB x.r y.r = s2 at S2 ⊢
  generalize sameB x.l y.r = s3 at S3 ⊢
  generalize sameB x.r y.l = s4 at S4 ⊢
  have C1 := Lib.hid S1
  have C2 := Lib.hid S2
  have C3 := Lib.hid S3
  have C4 := Lib.hid S4
  clear S1 S2 S3 S4 d0 hX hY
  go_enter Try.func43, Try.ntmps43
  go_wp2_with fail
  generalize (w.alloc x.obj).alloc y.obj = w1 at D ⊢
  generalize hb0 : w.heap.size = b0 at D ⊢
  have HB0 := Lib.hid hb0
  clear hb0
  refine (C1.out w1 D.out.now.2.2.1 D.out.now.2.2.2.1).mono ?_
  rintro e w2 ⟨rfl, hb⟩
  have D2 := Lib.hid (D.out.mv hb)
  clear hb D C1
  obtain ⟨⟨y0, y1, y2, y3, y4⟩, ⟨x0, x1, x2, x3, x4⟩, _⟩ := D2.out.now
  cases s1 with
  | true =>
    go_wp2_with fail
    refine (C2.out w2 D2.out.now.2.2.1 D2.out.now.2.2.2.1).mono ?_
    clear y0 y1 y2 y3 y4 x0 x1 x2 x3 x4
    rintro e w3 ⟨rfl, hb⟩
    have D3 := Lib.hid (D2.out.mv hb)
    clear hb D2 C2
    cases s2 with
    | true =>
      have HQ := Lib.hid D3.out.now.2.2.2.2
      go_wp2
      go_ret
      exact ⟨rfl, by rw [HB0.out]; exact HQ.out⟩
    | false =>
      obtain ⟨⟨y0, y1, y2, y3, y4⟩, ⟨x0, x1, x2, x3, x4⟩, _⟩ := D3.out.now
      go_wp2_with fail
      refine (C3.out w3 D3.out.now.2.2.1 D3.out.now.2.2.2.1).mono ?_
      clear y0 y1 y2 y3 y4 x0 x1 x2 x3 x4
      rintro e w4 ⟨rfl, hb⟩
      have D4 := Lib.hid (D3.out.mv hb)
      clear hb D3 C3
      cases s3 with
      | false =>
        have HQ := Lib.hid D4.out.now.2.2.2.2
        go_wp2
        go_ret
        exact ⟨rfl, by rw [HB0.out]; exact HQ.out⟩
      | true =>
        obtain ⟨⟨y0, y1, y2, y3, y4⟩, ⟨x0, x1, x2, x3, x4⟩, _⟩ := D4.out.now
        go_wp2_with fail
        refine (C4.out w4 D4.out.now.2.2.1 D4.out.now.2.2.2.1).mono ?_
        clear y0 y1 y2 y3 y4 x0 x1 x2 x3 x4
        rintro e w5 ⟨rfl, hb⟩
        have HQ := Lib.hid (D4.out.mv hb).now.2.2.2.2
        clear hb D4 C4
        go_wp2
        go_ret
        exact ⟨by cases s4 <;> rfl, by rw [HB0.out]; exact HQ.out⟩
  | false =>
    go_wp2_with fail
    refine (C3.out w2 D2.out.now.2.2.1 D2.out.now.2.2.2.1).mono ?_
    clear y0 y1 y2 y3 y4 x0 x1 x2 x3 x4
    rintro e w4 ⟨rfl, hb⟩
    have D4 := Lib.hid (D2.out.mv hb)
    clear hb D2 C3
    cases s3 with
    | false =>
      have HQ := Lib.hid D4.out.now.2.2.2.2
      go_wp2
      go_ret
      exact ⟨rfl, by rw [HB0.out]; exact HQ.out⟩
    | true =>
      obtain ⟨⟨y0, y1, y2, y3, y4⟩, ⟨x0, x1, x2, x3, x4⟩, _⟩ := D4.out.now
      go_wp2_with fail
      refine (C4.out w4 D4.out.now.2.2.1 D4.out.now.2.2.2.1).mono ?_
      clear y0 y1 y2 y3 y4 x0 x1 x2 x3 x4
      rintro e w5 ⟨rfl, hb⟩
      have HQ := Lib.hid (D4.out.mv hb).now.2.2.2.2
      clear hb D4 C4
      go_wp2
      go_ret
      exact ⟨by cases s4 <;> rfl, by rw [HB0.out]; exact HQ.out⟩

set_option maxRecDepth 100000 in
set_option maxHeartbeats 2000000 in
theorem rLitSame_any (x y : LV) (hx : x.sz) (hy : y.sz) (n₀ : Nat) (w : World) (hn : n₀ ≤ w.heap.size) (hX : IsLv n₀ w x) (hY : IsLv n₀ w y) :
    Calls Try.prog 16 #[x.v, y.v] w fun e w' => e = .returned (.bool (samL x.n x.l x.r y.n y.l y.r)) ∧ Below w.heap.size w w' := by
  have hF : Below w.heap.size w ((w.alloc x.obj).alloc y.obj) := ((Below.refl _ w).alloc (Nat.le_refl _) _).alloc (by simp) _
  have S := rSides_any x y hx hy n₀ ((w.alloc x.obj).alloc y.obj) (by simp; omega) (hX.below (hF.mono hn)) (hY.below (hF.mono hn))
  unfold samL
  generalize sidB x.l x.r y.l y.r = s at S ⊢
  have C := Lib.hid S
  have HF := Lib.hid hF
  clear S hX hY hF
  obtain ⟨p, hp⟩ : ∃ p, (x.n == y.n) = p := ⟨_, rfl⟩
  rw [hp]
  go_enter Try.func16, Try.ntmps16
  cases p with
  | false =>
    go_wp2
    go_ret
    exact ⟨rfl, HF.out⟩
  | true =>
    go_wp2_with fail
    refine C.out.mono ?_
    rintro e w2 ⟨rfl, hb⟩
    have HB := Lib.hid (HF.out.trans (hb.mono HF.out.size))
    clear hb
    go_wp2
    go_ret
    exact ⟨by cases s <;> rfl, HB.out⟩

set_option maxRecDepth 100000 in
set_option maxHeartbeats 2000000 in
theorem rLitTrivial_any (x : LV) (hx : x.sz) (n₀ : Nat) (w : World) (hn : n₀ ≤ w.heap.size) (hX : IsLv n₀ w x) :
    Calls Try.prog 21 #[x.v] w fun e w' => e = .returned (.bool (sameB x.l x.r)) ∧ Below w.heap.size w w' := by
  have hF : Below w.heap.size w (w.alloc x.obj) := (Below.refl _ w).alloc (Nat.le_refl _) _
  have hX1 := hX.below (hF.mono hn)
  have C := Lib.hid (rSame_any x.l x.r hx.1 hx.2 n₀ x.pa x.ca x.pb x.cb (w.alloc x.obj) (by simp; omega) hX1.la hX1.ra)
  have HF := Lib.hid hF
  clear hX hF hX1
  go_enter Try.func21, Try.ntmps21
  go_wp2_with fail
  refine C.out.mono ?_
  rintro e w2 ⟨rfl, hb⟩
  have HB := Lib.hid (HF.out.trans (hb.mono HF.out.size))
  clear hb
  go_wp2
  go_ret
  exact ⟨rfl, HB.out⟩

end Go.Proofs.Ytleohdddaadbeaa

/- Contract of the document's Opposite. -/
namespace Go.Proofs.Ytleohdddaadbeaa
set_option linter.unusedVariables false
set_option linter.unusedSimpArgs false
open Go.RowKit

set_option maxRecDepth 100000 in
set_option maxHeartbeats 2000000 in
theorem rLitOpposite_any (x y : LV) (hx : x.sz) (hy : y.sz) (n₀ : Nat) (w : World) (hn : n₀ ≤ w.heap.size) (hX : IsLv n₀ w x) (hY : IsLv n₀ w y) :
    Calls Try.prog 18 #[x.v, y.v] w fun e w' => e = .returned (.bool (oppL x.n x.l x.r y.n y.l y.r)) ∧ Below w.heap.size w w' := by
  have hF : Below w.heap.size w ((w.alloc x.obj).alloc y.obj) := ((Below.refl _ w).alloc (Nat.le_refl _) _).alloc (by simp) _
  have S := rSides_any x y hx hy n₀ ((w.alloc x.obj).alloc y.obj) (by simp; omega) (hX.below (hF.mono hn)) (hY.below (hF.mono hn))
  unfold oppL
  generalize sidB x.l x.r y.l y.r = s at S ⊢
  have C := Lib.hid S
  have HF := Lib.hid hF
  clear S hX hY hF
  clear hx hy hn
  obtain ⟨xn, xl, xr, xpa, xca, xpb, xcb⟩ := x
  obtain ⟨yn, yl, yr, ypa, yca, ypb, ycb⟩ := y
  go_enter Try.func18, Try.ntmps18
  rcases xn with _ | _ <;> rcases yn with _ | _
  · go_wp2
    go_ret
    exact ⟨rfl, HF.out⟩
  · go_wp2_with fail
    refine C.out.mono ?_
    rintro e w2 ⟨rfl, hb⟩
    have HB := Lib.hid (HF.out.trans (hb.mono HF.out.size))
    clear hb
    go_wp2
    go_ret
    exact ⟨by cases s <;> rfl, HB.out⟩
  · go_wp2_with fail
    refine C.out.mono ?_
    rintro e w2 ⟨rfl, hb⟩
    have HB := Lib.hid (HF.out.trans (hb.mono HF.out.size))
    clear hb
    go_wp2
    go_ret
    exact ⟨by cases s <;> rfl, HB.out⟩
  · go_wp2
    go_ret
    exact ⟨rfl, HF.out⟩

end Go.Proofs.Ytleohdddaadbeaa

/- Contract of the reference's Few of substitutions. -/
namespace Go.Proofs.Ytleohdddaadbeaa
set_option linter.unusedVariables false
set_option linter.unusedSimpArgs false
open Go.RowKit

def FewI (s : Sb) (w : World) (n i : Value) (wr : World) : Prop := ∃ k m : Nat, k ≤ s.length ∧ i = .int .i64 k ∧ n = .int .i64 (m : Int) ∧ m ≤ 1001 ∧ (m ≤ 500 → ∀ j x, j < k → s[j]? = some x → x.2.size ≤ 500) ∧ Below w.heap.size w wr
def FewPost (s : Sb) (w : World) (e : Ending) (w' : World) : Prop := ∃ b : Bool, e = .returned (.bool b) ∧ (b = true → ∀ x ∈ s, x.2.size ≤ 500) ∧ Below w.heap.size w w'

set_option maxRecDepth 100000 in
set_option maxHeartbeats 1000000 in
theorem fewS_any (s : Sb) (n₀ : Nat) (a : Option Addr) (c : Nat) (w : World) (hn : n₀ ≤ w.heap.size) (hS : IsBs n₀ w s a c) :
    Calls Try.prog 9 #[.slice a s.length c] w (FewPost s w) := by
  have hl : s.length ≤ c ∧ c ≤ maxLen := ⟨hS.1, hS.2.1⟩
  unfold maxLen at hl
  obtain ⟨hl1, hl2⟩ := hl
  have HS := Lib.hid hS
  clear hS
  go_enter Try.func9, Try.ntmps9
  go_wp2
  go_loopw [3, 4] (fun n i wr => FewI s w n i wr) (fun _ i _ => s.length - (intOf i).toNat)
  case atStart => exact ⟨0, 0, Nat.zero_le _, rfl, rfl, by omega, fun _ j x h => by omega, Below.refl _ _⟩
  case round =>
    obtain ⟨k, m, hk, rfl, rfl, hm, hall, hB⟩ := hrel
    have HAL := Lib.hid hall
    have HB := Lib.hid hB
    have hbz := hB.size
    clear hall hB
    by_cases hlt : k < s.length
    · have hk0 : (0 : Int) ≤ (k : Int) := Int.natCast_nonneg _
      have hk1 : (k : Int) < (s.length : Int) := by omega
      by_cases q1 : s.length ≤ 10
      · have q1' : (s.length : Int) ≤ 10 := by omega
        by_cases q2 : m ≤ 500
        · have q2' : (m : Int) ≤ 500 := by omega
          obtain ⟨b, o, x, t, a', c', rfl, hbn, hsk, hxw, htw, hc0, hc1, hc2, hA'⟩ := (HS.out.below (HB.out.mono hn)).elem (i := k) hlt
          have HSK := Lib.hid hsk
          have HA' := Lib.hid hA'
          have hnw : n₀ ≤ wr.heap.size := by omega
          clear hsk hxw htw hA'
          go_wp2_with fail
          refine (count_any t.size t (Nat.le_refl _) 500 n₀ a' c' wr (Nat.le_refl _) hnw HA'.out).mono ?_
          rintro e w2 ⟨rfl, hb2⟩
          obtain ⟨q, hq⟩ : ∃ q : Nat, min t.size (500 + 1) = q := ⟨_, rfl⟩
          rw [hq]
          have hq1 : q ≤ 501 := by omega
          have HB2 := Lib.hid (HB.out.trans (hb2.mono HB.out.size))
          have HQ := Lib.hid hq
          clear hb2 hq
          go_wp2
          go_roundw
          case rel =>
            refine ⟨k + 1, m + q, by omega, by go_num, by go_num, by omega, fun h j y hj hy => ?_, HB2.out⟩
            by_cases e : j = k
            · subst e
              rw [HSK.out] at hy
              cases hy
              have := HQ.out
              show t.size ≤ 500
              omega
            · exact HAL.out (by omega) j y (by omega) hy
          case measure => simp [intOf]; omega
        · have q2' : ¬ (m : Int) ≤ 500 := by omega
          go_wp2
          go_ret
          exact ⟨false, rfl, fun h => (by cases h), HB.out⟩
      · have q1' : ¬ (s.length : Int) ≤ 10 := by omega
        go_wp2
        go_ret
        exact ⟨false, rfl, fun h => (by cases h), HB.out⟩
    · have hk1 : ¬ (k : Int) < (s.length : Int) := by omega
      have hend : m ≤ 500 → ∀ x ∈ s, x.2.size ≤ 500 := fun h x hx => by
        obtain ⟨j, hj⟩ := List.getElem?_of_mem hx
        exact HAL.out h j x (by have := (List.getElem?_eq_some_iff.1 hj).1; omega) hj
      have HE := Lib.hid hend
      clear hend
      by_cases q1 : s.length ≤ 10
      · have q1' : (s.length : Int) ≤ 10 := by omega
        by_cases q2 : m ≤ 500
        · have q2' : (m : Int) ≤ 500 := by omega
          go_wp2
          go_ret
          exact ⟨true, rfl, fun _ => HE.out q2, HB.out⟩
        · have q2' : ¬ (m : Int) ≤ 500 := by omega
          go_wp2
          go_ret
          exact ⟨false, rfl, fun h => (by cases h), HB.out⟩
      · have q1' : ¬ (s.length : Int) ≤ 10 := by omega
        go_wp2
        go_ret
        exact ⟨false, rfl, fun h => (by cases h), HB.out⟩

end Go.Proofs.Ytleohdddaadbeaa

/- Small contracts for examples: a variable, a literal turned, the signature of $true, a and f. -/
namespace Go.Proofs.Ytleohdddaadbeaa
set_option linter.unusedVariables false
set_option linter.unusedSimpArgs false
open Go.RowKit

def g9 : Sg := [sy0, ⟨⟨#[97]⟩, 0, 1, false⟩, ⟨⟨#[102]⟩, 1, 1, false⟩]
def cells9 : List Value := [.string ⟨#[36, 116, 114, 117, 101]⟩, .int .i64 0, .int .i64 1, .bool true, .string ⟨#[97]⟩, .int .i64 0, .int .i64 1, .bool false, .string ⟨#[102]⟩, .int .i64 1, .int .i64 1, .bool false]
theorem g9_mem {b : Nat} {X : World} (h : Cs b cells9 X) : IsSg X.heap.size X g9 (some ⟨b, 0, none⟩) 3 := by
  obtain ⟨h1, h2⟩ := h
  refine ⟨by simp [g9], by simp [maxLen], .inr ⟨b, 0, rfl, h1, fun j x hx => ?_⟩⟩
  match j, hx with
  | 0, hx => simp [g9] at hx; subst hx; exact ⟨⟨by decide, by decide, by decide⟩, h2 0 _ rfl, h2 1 _ rfl, h2 2 _ rfl, h2 3 _ rfl⟩
  | 1, hx => simp [g9] at hx; subst hx; exact ⟨⟨by decide, by decide, by decide⟩, h2 4 _ rfl, h2 5 _ rfl, h2 6 _ rfl, h2 7 _ rfl⟩
  | 2, hx => simp [g9] at hx; subst hx; exact ⟨⟨by decide, by decide, by decide⟩, h2 8 _ rfl, h2 9 _ rfl, h2 10 _ rfl, h2 11 _ rfl⟩
  | j + 3, hx => simp [g9] at hx
def F9 : T := .node 2 [.node (-1) []]
def A9 : T := .node 1 []
theorem args9 {br : Nat} {X : World} (h : Cs br [.int .i64 (-1), .slice none 0 0] X) : IsArgs X.heap.size X F9.args (some ⟨br, 0, none⟩) 1 := by
  obtain ⟨h1, h2⟩ := h
  exact ⟨by simp [F9, T.args], by simp [maxLen], .inr ⟨br, 0, rfl, h1, ⟨by decide, h2 0 _ rfl, _, _, h2 1 _ rfl, by simp, by simp [maxLen], .inl rfl⟩, trivial⟩⟩
theorem argsA9 (X : World) : IsArgs X.heap.size X A9.args none 0 := ⟨by simp [A9, T.args], by simp [maxLen], .inl rfl⟩
/-- The example's literal. -/
def X9 (br : Nat) : LV := ⟨false, A9, F9, none, 0, some ⟨br, 0, none⟩, 1⟩
theorem x9_mem {br : Nat} {X : World} (h : Cs br [.int .i64 (-1), .slice none 0 0] X) : IsLv X.heap.size X (X9 br) := ⟨(show (Lit.int .i64 1).wf = true from by decide), (show (Lit.int .i64 2).wf = true from by decide), argsA9 X, args9 h⟩

set_option maxRecDepth 100000 in
set_option maxHeartbeats 1000000 in
theorem turn_any (x : LV) (w : World) : Calls Try.prog 34 #[x.v] w fun e w' => e = .returned x.turn.v ∧ Below w.heap.size w w' := by
  obtain ⟨xn, xl, xr, xpa, xca, xpb, xcb⟩ := x
  have HF := Lib.hid (show Below w.heap.size w ((w.alloc (LV.mk xn xl xr xpa xca xpb xcb).obj).alloc (LV.mk xn xl xr xpa xca xpb xcb).turn.obj) from ((Below.refl _ w).alloc (Nat.le_refl _) _).alloc (by simp) _)
  go_enter Try.func34, Try.ntmps34
  go_wp2
  refine bodyPost_ret (v := (LV.mk xn xl xr xpa xca xpb xcb).turn.v) (by simp [results, Try.results34, go_sem, LV.turn]) rfl ?_
  exact ⟨rfl, HF.out⟩

end Go.Proofs.Ytleohdddaadbeaa
