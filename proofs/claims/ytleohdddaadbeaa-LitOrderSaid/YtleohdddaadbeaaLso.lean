/- Contract of lit's Opposite. -/
import Derived.Test.YtleohdddaadbeaaLsa
namespace Go.Proofs.Ytleohdddaadbeaa
set_option linter.unusedVariables false
set_option linter.unusedSimpArgs false
open Go.RowKit

set_option maxRecDepth 100000 in
set_option maxHeartbeats 2000000 in
theorem litOpposite_any (x y : LV) (hx : x.sz) (n₀ : Nat) (w : World) (hn : n₀ ≤ w.heap.size) (hX : IsLv n₀ w x) (hY : IsLv n₀ w y) :
    Calls Try.prog 17 #[x.v, y.v] w fun e w' => e = .returned (.bool (oppL x.n x.l x.r y.n y.l y.r)) ∧ Below w.heap.size w w' := by
  have hF : Below w.heap.size w ((w.alloc x.obj).alloc y.obj) := ((Below.refl _ w).alloc (Nat.le_refl _) _).alloc (by simp) _
  have S := sameSides_any x y hx n₀ ((w.alloc x.obj).alloc y.obj) (by simp; omega) (hX.below (hF.mono hn)) (hY.below (hF.mono hn))
  unfold oppL
  generalize sidB x.l x.r y.l y.r = s at S ⊢
  have C := Lib.hid S
  have HF := Lib.hid hF
  clear S hX hY hF
  clear hx hn
  obtain ⟨xn, xl, xr, xpa, xca, xpb, xcb⟩ := x
  obtain ⟨yn, yl, yr, ypa, yca, ypb, ycb⟩ := y
  go_enter Try.func17, Try.ntmps17
  rcases xn with _ | _ <;> rcases yn with _ | _
  · go_wp2
    go_ret
    exact ⟨rfl, HF.out⟩
  · go_wp2_with fail
    refine C.out.mono ?_
    rintro e w2 ⟨rfl, hb⟩
    have HB := Lib.hid (HF.out.trans (hb.mono HF.out.size))
    clear hb
    go_wp2
    go_ret
    exact ⟨by cases s <;> rfl, HB.out⟩
  · go_wp2_with fail
    refine C.out.mono ?_
    rintro e w2 ⟨rfl, hb⟩
    have HB := Lib.hid (HF.out.trans (hb.mono HF.out.size))
    clear hb
    go_wp2
    go_ret
    exact ⟨by cases s <;> rfl, HB.out⟩
  · go_wp2
    go_ret
    exact ⟨rfl, HF.out⟩

end Go.Proofs.Ytleohdddaadbeaa
