/- Tab: replacement of an offset. -/
import Derived.Test.YtgjamdbiamleoaaTb0
import Derived.Test.YtgjamdbiamleoaaSOf
namespace Go.Proofs.Ytgjamdbiamleoaa
set_option linter.unusedVariables false
set_option linter.unusedSimpArgs false
open Go.RowKit
open Go.Maps

theorem offRep_any (by_ v : Int) (h1 : 0 ≤ v) (h2 : v ≤ 255) (h3 : 0 ≤ by_) (h4 : by_ ≤ 255) (w : World) :
    Calls Try.prog 61 #[.int .i64 by_, .int .i64 v] w (RepPost (vt (v + by_)) w) := by
  go_enter Try.func61, Try.ntmps61
  go_wp2_with fail
  refine (sVariable_any (v + by_) _ (by omega) (by omega)).mono ?_
  rintro e w3 ⟨rfl, hb3⟩
  have r0 := (hb3.cell (p := ⟨w.heap.size, 0, none⟩) (by simp)).trans (show _ = some (Value.int .i64 0) from by simp [go_sem])
  have r1 := (hb3.cell (p := ⟨w.heap.size, 1, none⟩) (by simp)).trans (show _ = some (Value.slice none 0 0) from by simp [go_sem])
  have r2 := (hb3.frozen (p := ⟨w.heap.size, 0, none⟩) (by simp)).trans (show _ = false from by simp [go_sem])
  have r3 := (hb3.frozen (p := ⟨w.heap.size, 1, none⟩) (by simp)).trans (show _ = false from by simp [go_sem])
  have HB := Lib.hid (((Below.refl _ w).alloc (Nat.le_refl _) _).trans (hb3.mono (by simp)))
  clear hb3
  go_wp2
  refine bodyPost_ret (v := tm (-1 - (v + by_)) none 0 0) (by simp [results, Try.results61, go_sem, r0, r1]) rfl ?_
  exact ⟨none, 0, rfl, wf_vt (by omega) (by omega), ⟨by simp [vt, T.args], by simp [maxLen], .inl rfl⟩, (HB.out.setCell (p := ⟨w.heap.size, 0, none⟩) (by simp) _).setCell (p := ⟨w.heap.size, 1, none⟩) (by simp) _⟩


end Go.Proofs.Ytgjamdbiamleoaa
