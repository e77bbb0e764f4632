/- The walk of TermOrder. -/
import Derived.Test.YtgocfiahlbgjjaaWComp
namespace Go.Proofs.Ytgocfiahlbgjjaa
set_option linter.unusedVariables false
set_option linter.unusedSimpArgs false
open Go.RowKit

theorem boxed3 (x y z : T) (a : Option Addr) (c : Nat) (a' : Option Addr) (c' : Nat) (a2 : Option Addr) (c2 : Nat) (w : World) (W : World) (hW : Below (((w.alloc (tmCells x.head a x.args.length c)).alloc (tmCells y.head a' y.args.length c')).alloc (tmCells z.head a2 z.args.length c2)).heap.size (((w.alloc (tmCells x.head a x.args.length c)).alloc (tmCells y.head a' y.args.length c')).alloc (tmCells z.head a2 z.args.length c2)) W) :
    (W.cell? ⟨w.heap.size, 0, none⟩ = some (.int .i64 x.head) ∧ W.cell? ⟨w.heap.size, 1, none⟩ = some (.slice a x.args.length c) ∧ W.cell? ⟨w.heap.size + 1, 0, none⟩ = some (.int .i64 y.head) ∧ W.cell? ⟨w.heap.size + 1, 1, none⟩ = some (.slice a' y.args.length c') ∧ W.cell? ⟨w.heap.size + 2, 0, none⟩ = some (.int .i64 z.head) ∧ W.cell? ⟨w.heap.size + 2, 1, none⟩ = some (.slice a2 z.args.length c2)) ∧ Below w.heap.size w W := by
  refine ⟨⟨?_, ?_, ?_, ?_, ?_, ?_⟩, ?_⟩
  · exact (hW.cell (p := ⟨w.heap.size, 0, none⟩) (by simp <;> omega)).trans (by simp [go_sem])
  · exact (hW.cell (p := ⟨w.heap.size, 1, none⟩) (by simp <;> omega)).trans (by simp [go_sem])
  · exact (hW.cell (p := ⟨w.heap.size + 1, 0, none⟩) (by simp <;> omega)).trans (by simp [go_sem])
  · exact (hW.cell (p := ⟨w.heap.size + 1, 1, none⟩) (by simp <;> omega)).trans (by simp [go_sem])
  · exact (hW.cell (p := ⟨w.heap.size + 2, 0, none⟩) (by simp <;> omega)).trans (by simp [go_sem])
  · exact (hW.cell (p := ⟨w.heap.size + 2, 1, none⟩) (by simp <;> omega)).trans (by simp [go_sem])
  · exact ((((Below.refl _ w).alloc (Nat.le_refl _) _).alloc (by simp) _).alloc (by simp; omega) _).trans (hW.mono (by simp; omega))

set_option maxRecDepth 100000 in
set_option maxHeartbeats 2000000 in
theorem termOrder_walk (x y z : T) (a : Option Addr) (c : Nat) (a' : Option Addr) (c' : Nat) (a2 : Option Addr) (c2 : Nat) (w : World) (hxw : (Lit.int .i64 x.head).wf = true) (hyw : (Lit.int .i64 y.head).wf = true) (hzw : (Lit.int .i64 z.head).wf = true) (hA : IsArgs w.heap.size w x.args a c) (hB : IsArgs w.heap.size w y.args a' c') (hC : IsArgs w.heap.size w z.args a2 c2) :
    Calls Try.prog 4 #[tm x.head a x.args.length c, tm y.head a' y.args.length c', tm z.head a2 z.args.length c2] w fun e w' => e = .returned (.bool true) ∧ Below w.heap.size w w' := by
  have HX := Lib.hid hxw
  have HY := Lib.hid hyw
  have HZ := Lib.hid hzw
  have HA := Lib.hid hA
  have HB := Lib.hid hB
  have HC := Lib.hid hC
  clear hA hB hC hxw hyw hzw
  have E := Lib.hid (boxed3 x y z a c a' c' a2 c2 w)
  go_enter Try.func4, Try.ntmps4
  go_wp2_with fail
  generalize ((w.alloc (tmCells x.head a x.args.length c)).alloc (tmCells y.head a' y.args.length c')).alloc (tmCells z.head a2 z.args.length c2) = wB at E ⊢
  have cF : ∀ W, Below wB.heap.size wB W → Calls Try.prog 12 #[tm x.head a x.args.length c] W fun e w' => e = .returned (.bool (decide (x.size ≤ 500))) ∧ Below W.heap.size W w' := fun W hW =>
    few_any x w.heap.size a c W (E.out W hW).2.size (HA.out.below (E.out W hW).2)
  have cG : ∀ W, Below wB.heap.size wB W → Calls Try.prog 12 #[tm y.head a' y.args.length c'] W fun e w' => e = .returned (.bool (decide (y.size ≤ 500))) ∧ Below W.heap.size W w' := fun W hW =>
    few_any y w.heap.size a' c' W (E.out W hW).2.size (HB.out.below (E.out W hW).2)
  have cH : ∀ W, Below wB.heap.size wB W → Calls Try.prog 12 #[tm z.head a2 z.args.length c2] W fun e w' => e = .returned (.bool (decide (z.size ≤ 500))) ∧ Below W.heap.size W w' := fun W hW =>
    few_any z w.heap.size a2 c2 W (E.out W hW).2.size (HC.out.below (E.out W hW).2)
  have CF := Lib.hid cF
  have CG := Lib.hid cG
  have CH := Lib.hid cH
  clear cF cG cH
  refine (CF.out wB (Below.refl _ _)).mono ?_
  rintro e w2 ⟨rfl, hb⟩
  by_cases hx : x.size ≤ 500
  case neg =>
    rw [show decide (x.size ≤ 500) = false from by simpa using hx]
    have HQ := Lib.hid hb
    clear hb
    go_wp2
    go_ret
    exact ⟨rfl, (E.out _ HQ.out).2⟩
  rw [show decide (x.size ≤ 500) = true from by simpa using hx]
  obtain ⟨⟨e1, e2, e3, e4, e5, e6⟩, _⟩ := E.out w2 hb
  have HQ := Lib.hid hb
  clear hb
  go_wp2_with fail
  refine (CG.out w2 HQ.out).mono ?_
  rintro e w3 ⟨rfl, hb⟩
  have hb := HQ.out.trans (hb.mono HQ.out.size)
  clear e1 e2 e3 e4 e5 e6 HQ
  by_cases hy : y.size ≤ 500
  case neg =>
    rw [show decide (y.size ≤ 500) = false from by simpa using hy]
    have HQ := Lib.hid hb
    clear hb
    go_wp2
    go_ret
    exact ⟨rfl, (E.out _ HQ.out).2⟩
  rw [show decide (y.size ≤ 500) = true from by simpa using hy]
  obtain ⟨⟨e1, e2, e3, e4, e5, e6⟩, _⟩ := E.out w3 hb
  have HQ := Lib.hid hb
  clear hb
  go_wp2_with fail
  refine (CH.out w3 HQ.out).mono ?_
  rintro e w4 ⟨rfl, hb⟩
  have hb := HQ.out.trans (hb.mono HQ.out.size)
  clear e1 e2 e3 e4 e5 e6 HQ
  by_cases hz : z.size ≤ 500
  case neg =>
    rw [show decide (z.size ≤ 500) = false from by simpa using hz]
    have HQ := Lib.hid hb
    clear hb
    go_wp2
    go_ret
    exact ⟨rfl, (E.out _ HQ.out).2⟩
  rw [show decide (z.size ≤ 500) = true from by simpa using hz]
  have cxy : ∀ W, Below wB.heap.size wB W → Calls Try.prog 16 #[tm x.head a x.args.length c, tm y.head a' y.args.length c'] W fun e w' => e = .returned (.int .i64 (T.cmp x y)) ∧ Below W.heap.size W w' := fun W hW =>
    compare_any x y (by omega) (by omega) w.heap.size a c a' c' W (E.out W hW).2.size HX.out HY.out (HA.out.below (E.out W hW).2) (HB.out.below (E.out W hW).2)
  have cyz : ∀ W, Below wB.heap.size wB W → Calls Try.prog 16 #[tm y.head a' y.args.length c', tm z.head a2 z.args.length c2] W fun e w' => e = .returned (.int .i64 (T.cmp y z)) ∧ Below W.heap.size W w' := fun W hW =>
    compare_any y z (by omega) (by omega) w.heap.size a' c' a2 c2 W (E.out W hW).2.size HY.out HZ.out (HB.out.below (E.out W hW).2) (HC.out.below (E.out W hW).2)
  have cxz : ∀ W, Below wB.heap.size wB W → Calls Try.prog 16 #[tm x.head a x.args.length c, tm z.head a2 z.args.length c2] W fun e w' => e = .returned (.int .i64 (T.cmp x z)) ∧ Below W.heap.size W w' := fun W hW =>
    compare_any x z (by omega) (by omega) w.heap.size a c a2 c2 W (E.out W hW).2.size HX.out HZ.out (HA.out.below (E.out W hW).2) (HC.out.below (E.out W hW).2)
  have cyx : ∀ W, Below wB.heap.size wB W → Calls Try.prog 16 #[tm y.head a' y.args.length c', tm x.head a x.args.length c] W fun e w' => e = .returned (.int .i64 (T.cmp y x)) ∧ Below W.heap.size W w' := fun W hW =>
    compare_any y x (by omega) (by omega) w.heap.size a' c' a c W (E.out W hW).2.size HY.out HX.out (HB.out.below (E.out W hW).2) (HA.out.below (E.out W hW).2)
  have cxx : ∀ W, Below wB.heap.size wB W → Calls Try.prog 16 #[tm x.head a x.args.length c, tm x.head a x.args.length c] W fun e w' => e = .returned (.int .i64 (T.cmp x x)) ∧ Below W.heap.size W w' := fun W hW =>
    compare_any x x (by omega) (by omega) w.heap.size a c a c W (E.out W hW).2.size HX.out HX.out (HA.out.below (E.out W hW).2) (HA.out.below (E.out W hW).2)
  have cS : ∀ W, Below wB.heap.size wB W → Calls Try.prog 14 #[tm x.head a x.args.length c, tm y.head a' y.args.length c'] W fun e w' => e = .returned (.bool (T.cmp x y == 0)) ∧ Below W.heap.size W w' := fun W hW =>
    (same_any x y (by omega) w.heap.size a c a' c' W (E.out W hW).2.size HX.out HY.out (HA.out.below (E.out W hW).2) (HB.out.below (E.out W hW).2)).mono fun e w' hh => ⟨by
      rw [hh.1]
      exact congrArg (fun q : Bool => Ending.returned (.bool q)) (by rw [Bool.eq_iff_iff, sameB_iff, beq_iff_eq, T.cmp_zero]), hh.2⟩
  rw [show T.cmp y x = - T.cmp x y from T.cmp_neg x y] at cyx
  rw [show T.cmp x x = 0 from T.cmp_self x] at cxx
  have hp := T.cmp_bd x y
  have hq := T.cmp_bd y z
  have hr := T.cmp_bd x z
  have hT := fun h1 h2 => T.cmp_le_trans (x := x) (y := y) (z := z) h1 h2
  generalize T.cmp x y = p at *
  generalize T.cmp y z = q at *
  generalize T.cmp x z = r at *
  have HT := Lib.hid hT
  have CXY := Lib.hid cxy
  have CYZ := Lib.hid cyz
  have CXZ := Lib.hid cxz
  have CYX := Lib.hid cyx
  have CXX := Lib.hid cxx
  have CS := Lib.hid cS
  obtain ⟨hp1, hp2⟩ := hp
  obtain ⟨hq1, hq2⟩ := hq
  obtain ⟨hr1, hr2⟩ := hr
  clear hT cxy cyz cxz cyx cxx cS CF CG CH hx hy hz
  obtain ⟨⟨e1, e2, e3, e4, e5, e6⟩, _⟩ := E.out w4 hb
  have HQ := Lib.hid hb
  clear hb
  go_wp2_with fail
  refine (CXY.out w4 HQ.out).mono ?_
  rintro e w5 ⟨rfl, hb⟩
  have hb := HQ.out.trans (hb.mono HQ.out.size)
  clear e1 e2 e3 e4 e5 e6 HQ
  obtain ⟨⟨e1, e2, e3, e4, e5, e6⟩, _⟩ := E.out w5 hb
  have HQ := Lib.hid hb
  clear hb
  go_wp2_with fail
  refine (CYZ.out w5 HQ.out).mono ?_
  rintro e w6 ⟨rfl, hb⟩
  have hb := HQ.out.trans (hb.mono HQ.out.size)
  clear e1 e2 e3 e4 e5 e6 HQ
  obtain ⟨⟨e1, e2, e3, e4, e5, e6⟩, _⟩ := E.out w6 hb
  have HQ := Lib.hid hb
  clear hb
  go_wp2_with fail
  refine (CXZ.out w6 HQ.out).mono ?_
  rintro e w7 ⟨rfl, hb⟩
  have hb := HQ.out.trans (hb.mono HQ.out.size)
  clear e1 e2 e3 e4 e5 e6 HQ
  obtain ⟨⟨e1, e2, e3, e4, e5, e6⟩, _⟩ := E.out w7 hb
  have HQ := Lib.hid hb
  clear hb
  go_wp2_with fail
  refine (CYX.out w7 HQ.out).mono ?_
  rintro e w8 ⟨rfl, hb⟩
  have hb := HQ.out.trans (hb.mono HQ.out.size)
  clear e1 e2 e3 e4 e5 e6 HQ
  have hne : (p != p) = false := by simp
  obtain ⟨⟨e1, e2, e3, e4, e5, e6⟩, _⟩ := E.out w8 hb
  have HQ := Lib.hid hb
  clear hb
  go_wp2_with fail
  refine (CS.out w8 HQ.out).mono ?_
  rintro e w9 ⟨rfl, hb⟩
  have hb := HQ.out.trans (hb.mono HQ.out.size)
  clear e1 e2 e3 e4 e5 e6 HQ
  have hne2 : ((p == 0) != (p == 0)) = false := by simp
  obtain ⟨⟨e1, e2, e3, e4, e5, e6⟩, _⟩ := E.out w9 hb
  have HQ := Lib.hid hb
  clear hb
  go_wp2_with fail
  refine (CXX.out w9 HQ.out).mono ?_
  rintro e w10 ⟨rfl, hb⟩
  have hb := HQ.out.trans (hb.mono HQ.out.size)
  clear e1 e2 e3 e4 e5 e6 HQ
  obtain ⟨⟨e1, e2, e3, e4, e5, e6⟩, _⟩ := E.out w10 hb
  have HQ := Lib.hid hb
  clear hb
  go_wp2_with fail
  refine (awake_any w10).mono ?_
  rintro e w11 ⟨rfl, hb⟩
  have HR := Lib.hid (HQ.out.trans (hb.mono HQ.out.size))
  clear e1 e2 e3 e4 e5 e6 HQ hb
  by_cases h1 : 0 < p
  · go_wp2
    go_ret
    exact ⟨by simp [h1], (E.out _ HR.out).2⟩
  · by_cases h2 : 0 < q
    · go_wp2
      go_ret
      exact ⟨by simp [h2], (E.out _ HR.out).2⟩
    · obtain ⟨h3, h4⟩ := HT.out (by omega) (by omega)
      have H4 := Lib.hid h4
      clear h4
      by_cases h5 : p < 0
      · have h6 : r < 0 := H4.out.1 (.inl h5)
        go_wp2
        go_ret
        exact ⟨by simp [h5, h6]; try omega, (E.out _ HR.out).2⟩
      · by_cases h6 : q < 0
        · have h7 : r < 0 := H4.out.1 (.inr h6)
          go_wp2
          go_ret
          exact ⟨by simp [h6, h7]; try omega, (E.out _ HR.out).2⟩
        · have h7 : ¬ r < 0 := fun h => (H4.out.2 h).elim h5 h6
          go_wp2
          go_ret
          exact ⟨by simp; right; rw [decide_eq_false (by omega : ¬ p < 0), decide_eq_false (by omega : ¬ q < 0), decide_eq_false (by omega : ¬ r < 0)]; rfl, (E.out _ HR.out).2⟩

end Go.Proofs.Ytgocfiahlbgjjaa
