/- The walk of TermCompares. -/
import Derived.Test.YtgocfiahlbgjjaaComp
import Derived.Test.YtgocfiahlbgjjaaOrd
import Derived.Test.YtgocfiahlbgjjaaCount
import Derived.Lib.QuietBelow
namespace Go.Proofs.Ytgocfiahlbgjjaa
set_option linter.unusedVariables false
set_option linter.unusedSimpArgs false
open Go.RowKit

/-- Two terms that are handed in, boxed: their cells, in every later world. -/
theorem boxed2 (x y : T) (a : Option Addr) (c : Nat) (a' : Option Addr) (c' : Nat) (w : World) (W : World) (hW : Below ((w.alloc (tmCells x.head a x.args.length c)).alloc (tmCells y.head a' y.args.length c')).heap.size ((w.alloc (tmCells x.head a x.args.length c)).alloc (tmCells y.head a' y.args.length c')) W) :
    W.cell? ⟨w.heap.size, 0, none⟩ = some (.int .i64 x.head) ∧ W.cell? ⟨w.heap.size, 1, none⟩ = some (.slice a x.args.length c) ∧ W.cell? ⟨w.heap.size + 1, 0, none⟩ = some (.int .i64 y.head) ∧ W.cell? ⟨w.heap.size + 1, 1, none⟩ = some (.slice a' y.args.length c') ∧ Below w.heap.size w W := by
  refine ⟨(hW.cell (p := ⟨w.heap.size, 0, none⟩) (by simp; omega)).trans (by simp [go_sem]), (hW.cell (p := ⟨w.heap.size, 1, none⟩) (by simp; omega)).trans (by simp [go_sem]), (hW.cell (p := ⟨w.heap.size + 1, 0, none⟩) (by simp)).trans (by simp [go_sem]), (hW.cell (p := ⟨w.heap.size + 1, 1, none⟩) (by simp)).trans (by simp [go_sem]), ?_⟩
  exact (((Below.refl _ w).alloc (Nat.le_refl _) _).alloc (by simp) _).trans (hW.mono (by simp; omega))

set_option maxRecDepth 100000 in
set_option maxHeartbeats 1000000 in
theorem termCompares_walk (x y : T) (a : Option Addr) (c : Nat) (a' : Option Addr) (c' : Nat) (w : World) (hxw : (Lit.int .i64 x.head).wf = true) (hyw : (Lit.int .i64 y.head).wf = true) (hA : IsArgs w.heap.size w x.args a c) (hB : IsArgs w.heap.size w y.args a' c') :
    Calls Try.prog 3 #[tm x.head a x.args.length c, tm y.head a' y.args.length c'] w fun e w' => e = .returned (.bool true) ∧ Below w.heap.size w w' := by
  have HX := Lib.hid hxw
  have HY := Lib.hid hyw
  have HA := Lib.hid hA
  have HB := Lib.hid hB
  clear hA hB hxw hyw
  have E := Lib.hid (boxed2 x y a c a' c' w)
  go_enter Try.func3, Try.ntmps3
  go_wp2_with fail
  generalize (w.alloc (tmCells x.head a x.args.length c)).alloc (tmCells y.head a' y.args.length c') = wB at E ⊢
  have cF : ∀ W, Below wB.heap.size wB W → Calls Try.prog 12 #[tm x.head a x.args.length c] W fun e w' => e = .returned (.bool (decide (x.size ≤ 500))) ∧ Below W.heap.size W w' := fun W hW =>
    few_any x w.heap.size a c W (E.out W hW).2.2.2.2.size (HA.out.below (E.out W hW).2.2.2.2)
  have cG : ∀ W, Below wB.heap.size wB W → Calls Try.prog 12 #[tm y.head a' y.args.length c'] W fun e w' => e = .returned (.bool (decide (y.size ≤ 500))) ∧ Below W.heap.size W w' := fun W hW =>
    few_any y w.heap.size a' c' W (E.out W hW).2.2.2.2.size (HB.out.below (E.out W hW).2.2.2.2)
  refine (cF wB (Below.refl _ _)).mono ?_
  rintro e w2 ⟨rfl, hb2⟩
  by_cases hx : x.size ≤ 500
  · rw [show decide (x.size ≤ 500) = true from by simpa using hx]
    obtain ⟨e1, e2, e3, e4, _⟩ := E.out w2 hb2
    have CG := Lib.hid (cG w2 hb2)
    have HB2 := Lib.hid hb2
    clear cF cG hb2
    go_wp2_with fail
    refine CG.out.mono ?_
    rintro e w3 ⟨rfl, hb3⟩
    have hb3 := HB2.out.trans (hb3.mono HB2.out.size)
    clear e1 e2 e3 e4
    by_cases hy : y.size ≤ 500
    · rw [show decide (y.size ≤ 500) = true from by simpa using hy]
      obtain ⟨e1, e2, e3, e4, _⟩ := E.out w3 hb3
      have c1 : ∀ W, Below w3.heap.size w3 W → Calls Try.prog 14 #[tm x.head a x.args.length c, tm y.head a' y.args.length c'] W fun e w' => e = .returned (.bool (sameB x y)) ∧ Below W.heap.size W w' := fun W hW => by
        have hq := (E.out W (hb3.trans (hW.mono hb3.size))).2.2.2.2
        exact same_any x y (by omega) w.heap.size a c a' c' W hq.size HX.out HY.out (HA.out.below hq) (HB.out.below hq)
      have c2 : ∀ W, Below w3.heap.size w3 W → Calls Try.prog 15 #[tm x.head a x.args.length c, tm y.head a' y.args.length c'] W fun e w' => e = .returned (.bool (sameB x y)) ∧ Below W.heap.size W w' := fun W hW => by
        have hq := (E.out W (hb3.trans (hW.mono hb3.size))).2.2.2.2
        refine (refSame_any x y (by omega) (by omega) w.heap.size a c a' c' W hq.size (HA.out.below hq) (HB.out.below hq)).mono fun e w' hh => ⟨?_, hh.2⟩
        rw [hh.1]
        exact congrArg (fun q : Bool => Ending.returned (.bool q)) (by rw [Bool.eq_iff_iff, sameB_iff, decide_eq_true_iff, T.cmp_zero])
      have c3 : ∀ W, Below w3.heap.size w3 W → Calls Try.prog 16 #[tm x.head a x.args.length c, tm y.head a' y.args.length c'] W fun e w' => e = .returned (.int .i64 (T.cmp x y)) ∧ Below W.heap.size W w' := fun W hW => by
        have hq := (E.out W (hb3.trans (hW.mono hb3.size))).2.2.2.2
        exact compare_any x y (by omega) (by omega) w.heap.size a c a' c' W hq.size HX.out HY.out (HA.out.below hq) (HB.out.below hq)
      have c4 : ∀ W, Below w3.heap.size w3 W → Calls Try.prog 17 #[tm x.head a x.args.length c, tm y.head a' y.args.length c'] W fun e w' => e = .returned (.int .i64 (T.cmp x y)) ∧ Below W.heap.size W w' := fun W hW => by
        have hq := (E.out W (hb3.trans (hW.mono hb3.size))).2.2.2.2
        exact refCompare_any x.size x y (Nat.le_refl _) (by omega) (by omega) w.heap.size a c a' c' W hq.size (HA.out.below hq) (HB.out.below hq)
      have C1 := Lib.hid c1
      have C2 := Lib.hid c2
      have C3 := Lib.hid c3
      have C4 := Lib.hid c4
      have HB3 := Lib.hid hb3
      clear c1 c2 c3 c4 hb3 hx hy
      go_wp2
      have f1 := fun d os => cell_regrown e1 d os
      have f2 := fun d os => cell_regrown e2 d os
      have f3 := fun d os => cell_regrown e3 d os
      have f4 := fun d os => cell_regrown e4 d os
      refine wp_region_quiet_below (by kernel_rfl) (by kernel_rfl) ?_
      repeat (quiet_step (first | with_reducible exact Calls.regrown_of (awake_any _) | with_reducible exact Calls.regrown_of (C1.out _ (below_regrown _ _ _)) | with_reducible exact Calls.regrown_of (C2.out _ (below_regrown _ _ _)) | with_reducible exact Calls.regrown_of (C3.out _ (below_regrown _ _ _)) | with_reducible exact Calls.regrown_of (C4.out _ (below_regrown _ _ _))))
      refine wpQuiet_nil ?_
      intro _ hw'
      obtain ⟨⟨dq, osq⟩, hw''⟩ := hw'
      subst hw''
      go_wp2
      go_ret
      refine ⟨by simp, ?_⟩
      exact (E.out _ (HB3.out.trans ((below_regrown w3 dq osq).mono HB3.out.size))).2.2.2.2
    · rw [show decide (y.size ≤ 500) = false from by simpa using hy]
      have HB3 := Lib.hid hb3
      clear hb3
      go_wp2
      go_ret
      exact ⟨rfl, (E.out _ HB3.out).2.2.2.2⟩
  · rw [show decide (x.size ≤ 500) = false from by simpa using hx]
    have HB3 := Lib.hid hb2
    clear hb2 cF cG
    go_wp2
    go_ret
    exact ⟨rfl, (E.out _ HB3.out).2.2.2.2⟩

end Go.Proofs.Ytgocfiahlbgjjaa
