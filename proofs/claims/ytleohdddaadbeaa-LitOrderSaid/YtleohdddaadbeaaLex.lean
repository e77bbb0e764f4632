/- Contracts of the document's answer: Exact and Few of literals (layer 9). -/
import Derived.Test.YtleohdddaadbeaaLm
import Derived.Test.YtleohdddaadbeaaLat
import Derived.Test.YtleohdddaadbeaaCount
namespace Go.Proofs.Ytleohdddaadbeaa
set_option linter.unusedVariables false
set_option linter.unusedSimpArgs false
open Go.RowKit

set_option maxRecDepth 100000 in
set_option maxHeartbeats 2000000 in
/-- Two literals that are the same, side by side. -/
theorem exactAt_any (x y : LV) (en : y.n = x.n) (el : x.l = y.l) (er : x.r = y.r) (hx : x.sz) (n₀ : Nat) (w : World) (hn : n₀ ≤ w.heap.size) (hX : IsLv n₀ w x) (hY : IsLv n₀ w y) :
    Calls Try.prog 19 #[x.v, y.v] w fun e w' => e = .returned (.bool true) ∧ Below w.heap.size w w' := by
  have d0 := (((((Later.below (Below.refl _ w)).and (later_lv (hY.mono hn))).and (later_lv (hX.mono hn))).pushL (Below.refl _ _) x).pushL (Below.refl _ _) y)
  have C1 := Lib.hid (fun (W : World) (hX : IsLv W.heap.size W x) (hY : IsLv W.heap.size W y) => sameAt_any x.l y.l el hx.1 W.heap.size x.pa x.ca y.pa y.ca W (Nat.le_refl _) hX.la hY.la)
  have C2 := Lib.hid (fun (W : World) (hX : IsLv W.heap.size W x) (hY : IsLv W.heap.size W y) => sameAt_any x.r y.r er hx.2 W.heap.size x.pb x.cb y.pb y.cb W (Nat.le_refl _) hX.ra hY.ra)
  simp only [heap_alloc_size] at d0
  have D := Lib.hid d0
  have hnn : (x.n == y.n) = true := by rw [en]; simp
  clear hX hY d0 en el er
  go_enter Try.func19, Try.ntmps19
  go_wp2_with fail
  generalize (w.alloc x.obj).alloc y.obj = w1 at D ⊢
  generalize hb0 : w.heap.size = b0 at D ⊢
  have HB0 := Lib.hid hb0
  clear hb0
  refine (C1.out w1 D.out.now.2.2.1 D.out.now.2.2.2.1).mono ?_
  rintro e w2 ⟨rfl, hb⟩
  have D2 := Lib.hid (D.out.mv hb)
  clear hb D C1
  obtain ⟨⟨y0, y1, y2, y3, y4⟩, ⟨x0, x1, x2, x3, x4⟩, _⟩ := D2.out.now
  go_wp2_with fail
  refine (C2.out w2 D2.out.now.2.2.1 D2.out.now.2.2.2.1).mono ?_
  clear x0 x1 x2 x3 x4 y0 y1 y2 y3 y4
  rintro e w3 ⟨rfl, hb⟩
  have HQ := Lib.hid (D2.out.mv hb).now.2.2.2.2
  clear hb D2 C2
  go_wp2
  go_ret
  exact ⟨rfl, by rw [HB0.out]; exact HQ.out⟩

set_option maxRecDepth 100000 in
set_option maxHeartbeats 2000000 in
theorem litFew_any (x : LV) (n₀ : Nat) (w : World) (hn : n₀ ≤ w.heap.size) (hX : IsLv n₀ w x) :
    Calls Try.prog 8 #[x.v] w fun e w' => ∃ b : Bool, e = .returned (.bool b) ∧ (b = true → x.l.size ≤ 500 ∧ x.r.size ≤ 500) ∧ Below w.heap.size w w' := by
  have d0 := (((Later.below (Below.refl _ w)).and (later_lv (hX.mono hn))).pushL (Below.refl _ _) x)
  have C1 := Lib.hid (fun (W : World) (hX : IsLv W.heap.size W x) => few_any x.l W.heap.size x.pa x.ca W (Nat.le_refl _) hX.la)
  have C2 := Lib.hid (fun (W : World) (hX : IsLv W.heap.size W x) => few_any x.r W.heap.size x.pb x.cb W (Nat.le_refl _) hX.ra)
  have D := Lib.hid d0
  clear hX d0
  go_enter Try.func8, Try.ntmps8
  go_wp2_with fail
  generalize w.alloc x.obj = w1 at D ⊢
  generalize hb0 : w.heap.size = b0 at D ⊢
  have HB0 := Lib.hid hb0
  clear hb0
  refine (C1.out w1 D.out.now.2.1).mono ?_
  rintro e w2 ⟨rfl, hb⟩
  have D2 := Lib.hid (D.out.mv hb)
  clear hb D C1
  obtain ⟨⟨x0, x1, x2, x3, x4⟩, _⟩ := D2.out.now
  by_cases h1 : x.l.size ≤ 500
  · have H1 := Lib.hid h1
    rw [decide_eq_true h1]
    clear h1
    go_wp2_with fail
    refine (C2.out w2 D2.out.now.2.1).mono ?_
    clear x0 x1 x2 x3 x4
    rintro e w3 ⟨rfl, hb⟩
    have HQ := Lib.hid (D2.out.mv hb).now.2.2
    clear hb D2 C2
    obtain ⟨r, hr⟩ : ∃ r, decide (x.r.size ≤ 500) = r := ⟨_, rfl⟩
    rw [hr]
    have HR := Lib.hid (show r = true → x.l.size ≤ 500 ∧ x.r.size ≤ 500 from fun e => ⟨H1.out, of_decide_eq_true (by rw [hr, e])⟩)
    clear hr
    go_wp2
    go_ret
    exact ⟨r, by cases r <;> rfl, HR.out, by rw [HB0.out]; exact HQ.out⟩
  · have HQ := Lib.hid D2.out.now.2.2
    rw [decide_eq_false h1]
    clear h1
    go_wp2
    go_ret
    exact ⟨false, rfl, by simp, by rw [HB0.out]; exact HQ.out⟩
theorem sz_few {x : LV} (h : x.l.size ≤ 500 ∧ x.r.size ≤ 500) : x.sz := ⟨by omega, by omega⟩

end Go.Proofs.Ytleohdddaadbeaa
