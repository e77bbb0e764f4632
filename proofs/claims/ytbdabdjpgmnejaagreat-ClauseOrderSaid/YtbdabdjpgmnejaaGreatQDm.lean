/- QDm: joined of Of1, Shf. -/
import Derived.Test.YtbdabdjpgmnejaaGreatQDh
import Derived.Test.YtbdabdjpgmnejaaGreatQDl
import Derived.Test.YtbdabdjpgmnejaaGreatQDg
import Derived.Test.YtbdabdjpgmnejaaGreatQBg
import Derived.Test.YtbdabdjpgmnejaaGreatQDi
/- Of1: split off Tab. -/
namespace Go.Proofs.YtbdabdjpgmnejaaGreat
set_option linter.unusedVariables false
set_option linter.unusedSimpArgs false
open Go.RowKit
open Go.Maps

theorem offRep_any (by_ v : Int) (h1 : 0 ≤ v) (h2 : v ≤ 255) (h3 : 0 ≤ by_) (h4 : by_ ≤ 255) (w : World) :
    Calls Tryz.prog 108 #[.int .i64 by_, .int .i64 v] w (RepPost (vt (v + by_)) w) := by
  go_enter Tryz.func108, Tryz.ntmps108
  go_wp2_with fail
  refine (sVariable_any (v + by_) _ (by omega) (by omega)).mono ?_
  rintro e w3 ⟨rfl, hb3⟩
  have r0 := (hb3.cell (p := ⟨w.heap.size, 0, none⟩) (by simp)).trans (show _ = some (Value.int .i64 0) from by simp [go_sem])
  have r1 := (hb3.cell (p := ⟨w.heap.size, 1, none⟩) (by simp)).trans (show _ = some (Value.slice none 0 0) from by simp [go_sem])
  have r2 := (hb3.frozen (p := ⟨w.heap.size, 0, none⟩) (by simp)).trans (show _ = false from by simp [go_sem])
  have r3 := (hb3.frozen (p := ⟨w.heap.size, 1, none⟩) (by simp)).trans (show _ = false from by simp [go_sem])
  have HB := Lib.hid (((Below.refl _ w).alloc (Nat.le_refl _) _).trans (hb3.mono (by simp)))
  clear hb3
  go_wp2
  refine bodyPost_ret (v := tm (-1 - (v + by_)) none 0 0) (by simp [results, Tryz.results108, go_sem, r0, r1]) rfl ?_
  exact ⟨none, 0, rfl, wf_vt (by omega) (by omega), ⟨by simp [vt, T.args], by simp [maxLen], .inl rfl⟩, (HB.out.setCell (p := ⟨w.heap.size, 0, none⟩) (by simp) _).setCell (p := ⟨w.heap.size, 1, none⟩) (by simp) _⟩

theorem enters_off : ∀ args W, (callFunc 108 args).run Tryz.prog W = .ok (.enter 108 args) W := enters_of Tryz.func108 (by kernel_rfl) rfl

end Go.Proofs.YtbdabdjpgmnejaaGreat

/- Contract of Shift. -/
namespace Go.Proofs.YtbdabdjpgmnejaaGreat
set_option linter.unusedVariables false
set_option linter.unusedSimpArgs false
open Go.RowKit

/-- A term in new memory, and an error. -/
def TEPostN (x : T) (k : Int) (w : World) (e : Ending) (w' : World) : Prop :=
  ∃ a c, e = .returned (.tuple #[tm x.head a x.args.length c, .int .i64 k]) ∧ (Lit.int .i64 x.head).wf = true ∧ IsArgsp (fun b => w.heap.size ≤ b ∧ b < w'.heap.size) w' x.args a c ∧ Below w.heap.size w w'
set_option maxRecDepth 100000 in
set_option maxHeartbeats 4000000 in
theorem shiftN_any (t : T) (ht : t.size ≤ 1000000000000) (y : Int) (n₀ : Nat) (at_ : Option Addr) (ct : Nat) (w : World) (hn : n₀ ≤ w.heap.size) (htw : (Lit.int .i64 t.head).wf = true) (hA : IsArgs n₀ w t.args at_ ct) :
    Calls Tryz.prog 63 #[tm t.head at_ t.args.length ct, .int .i64 y] w (TEPostN (shfT t y) (shfE t y) w) := by
  obtain ⟨w2, hw2⟩ : ∃ w2, (w.alloc (tmCells t.head at_ t.args.length ct)).alloc (tmCells 0 none 0 0) = w2 := ⟨_, rfl⟩
  have hB2 : Below w.heap.size w w2 := by rw [← hw2]; exact ((Below.refl _ w).alloc (Nat.le_refl _) _).alloc (by simp) _
  have hs2 : w2.heap.size = w.heap.size + 2 := by rw [← hw2]; simp
  have L2 := Lib.hid (show ∀ W, Below w2.heap.size w2 W → W.cell? ⟨w.heap.size, 0, none⟩ = some (.int .i64 t.head) ∧ W.cell? ⟨w.heap.size, 1, none⟩ = some (.slice at_ t.args.length ct) ∧ W.cell? ⟨w.heap.size + 1, 0, none⟩ = some (.int .i64 0) ∧ W.cell? ⟨w.heap.size + 1, 1, none⟩ = some (.slice none 0 0) ∧ W.frozen? ⟨w.heap.size + 1, 0, none⟩ = false ∧ W.frozen? ⟨w.heap.size + 1, 1, none⟩ = false from fun W hW =>
    ⟨(hW.cell (p := ⟨w.heap.size, 0, none⟩) (by simp; omega)).trans (by rw [← hw2]; simp [go_sem]), (hW.cell (p := ⟨w.heap.size, 1, none⟩) (by simp; omega)).trans (by rw [← hw2]; simp [go_sem]), (hW.cell (p := ⟨w.heap.size + 1, 0, none⟩) (by simp; omega)).trans (by rw [← hw2]; simp [go_sem]), (hW.cell (p := ⟨w.heap.size + 1, 1, none⟩) (by simp; omega)).trans (by rw [← hw2]; simp [go_sem]), (hW.frozen (p := ⟨w.heap.size + 1, 0, none⟩) (by simp; omega)).trans (by rw [← hw2]; simp [go_sem]), (hW.frozen (p := ⟨w.heap.size + 1, 1, none⟩) (by simp; omega)).trans (by rw [← hw2]; simp [go_sem])⟩)
  have LS := Lib.hid (show ∀ W, Below w2.heap.size w2 W → IsArgs n₀ W t.args at_ ct ∧ Below w.heap.size w W ∧ n₀ ≤ W.heap.size from fun W hW => by
    have h := hB2.trans (hW.mono hB2.size)
    exact ⟨hA.below (h.mono hn), h, Nat.le_trans hn h.size⟩)
  have HTW := Lib.hid htw
  have HS2 := Lib.hid hs2
  clear hA hB2 hs2 htw
  obtain ⟨c0, c1, r0, r1, rf0, rf1⟩ := L2.out w2 (Below.refl _ _)
  by_cases qy : y < 0 ∨ 255 < y
  · have hga : goodH t y = false := by rcases qy with h | h <;> simp [goodH] <;> intros <;> omega
    have hT : shfT t y = Z0 := by unfold shfT; rw [hga]; rfl
    have hE : shfE t y = 1 := by unfold shfE; rw [hga]; rfl
    have HF := Lib.hid (LS.out w2 (Below.refl _ _)).2.1
    rcases qy with q | q
    · go_enter Tryz.func63, Tryz.ntmps63
      go_wp2
      refine bodyPost_ret (v := .tuple #[tm 0 none 0 0, .int .i64 1]) (by simp [results, Tryz.results63, go_sem, r0, r1]) rfl ?_
      first | rw [hT, hE] | skip
      exact ⟨none, 0, rfl, wf_z0, isArgsp_z _ _, (HF.out.setCell (p := ⟨w.heap.size + 1, 0, none⟩) (by simp) _).setCell (p := ⟨w.heap.size + 1, 1, none⟩) (by simp) _⟩
    · have q' : ¬ y < 0 := by omega
      go_enter Tryz.func63, Tryz.ntmps63
      go_wp2
      refine bodyPost_ret (v := .tuple #[tm 0 none 0 0, .int .i64 1]) (by simp [results, Tryz.results63, go_sem, r0, r1]) rfl ?_
      first | rw [hT, hE] | skip
      exact ⟨none, 0, rfl, wf_z0, isArgsp_z _ _, (HF.out.setCell (p := ⟨w.heap.size + 1, 0, none⟩) (by simp) _).setCell (p := ⟨w.heap.size + 1, 1, none⟩) (by simp) _⟩
  have qy0 : ¬ y < 0 := by omega
  have qy1 : ¬ 255 < y := by omega
  have qz0 : 0 ≤ y := by omega
  have qz1 : y ≤ 255 := by omega
  go_enter Tryz.func63, Tryz.ntmps63
  go_wp2_with fail
  clear c0 c1 r0 r1 rf0 rf1 hw2
  have ls := LS.out w2 (Below.refl _ _)
  refine (check_any t ht n₀ at_ ct w2 ls.2.2 HTW.out ls.1).mono ?_
  clear ls
  rintro e w4 ⟨rfl, hb4⟩
  have HB4 := Lib.hid hb4
  obtain ⟨c0, c1, r0, r1, rf0, rf1⟩ := L2.out w4 hb4
  have HF := Lib.hid (LS.out w4 hb4).2.1
  by_cases q2 : t.check = 0
  · rw [q2]
    have hga : goodH t y = true := by simp [goodH, q2]; omega
    have hT : shfT t y = endT (t.sub (offS y)) := by unfold shfT; rw [if_pos hga]
    have hE : shfE t y = (t.sub (offS y)).check := by unfold shfE; rw [if_pos hga]
    obtain ⟨hts, _, htg⟩ := check_ok q2
    have hxs := shf_size hts y
    have ls := LS.out w4 hb4
    have CR := Lib.hid (rebuild_any _ enters_off (.int .i64 y) (offS y) t.size t (Nat.le_refl _) ht htg n₀ at_ ct w4 ls.2.2 HTW.out ls.1 (fun X v hX h0 h1 => offRep_any y v h0 h1 qz0 qz1 X))
    have KP := Lib.hid (show ∀ W, Below w4.heap.size w4 W → W.cell? ⟨w.heap.size + 1, 0, none⟩ = some (.int .i64 0) ∧ W.cell? ⟨w.heap.size + 1, 1, none⟩ = some (.slice none 0 0) ∧ W.frozen? ⟨w.heap.size + 1, 0, none⟩ = false ∧ W.frozen? ⟨w.heap.size + 1, 1, none⟩ = false from fun W hW => (L2.out W (HB4.out.trans (hW.mono HB4.out.size))).2.2)
    generalize t.sub (offS y) = x at hxs hT hE CR ⊢
    clear hb4 hga hts htg ls
    go_wp2_with fail
    clear c0 c1 r0 r1 rf0 rf1
    refine CR.out.mono ?_
    rintro e w6 ⟨a6, c6, rfl, hw6, hI6, hb6⟩
    have HB6 := Lib.hid hb6
    have HI6 := Lib.hid hI6
    have HW6 := Lib.hid hw6
    clear hb6 hI6 hw6
    go_wp2_with fail
    refine (checked_any x hxs _ a6 c6 w6 (fun b h => h.2) HW6.out HI6.out).mono ?_
    rintro e w7 ⟨a7, c7, rfl, hw7, hA7, hb7⟩
    have hB7 : Below w4.heap.size w4 w7 := HB6.out.trans (hb7.mono HB6.out.size)
    obtain ⟨s0, s1, sf0, sf1⟩ := KP.out w7 hB7
    have HB7 := Lib.hid hB7
    have HA7 := Lib.hid hA7
    have HW7 := Lib.hid hw7
    have hz67 := hb7.size
    clear hB7 hA7 hw7 hb7
    go_wp2
    refine bodyPost_ret (v := .tuple #[tm (endT x).head a7 (endT x).args.length c7, .int .i64 x.check]) (by simp [results, Tryz.results63, go_sem, s0, s1]) rfl ?_
    first | rw [hT, hE] | skip
    have hw7' : Below w.heap.size w w7 := HF.out.trans (HB7.out.mono HF.out.size)
    have hz5 : w.heap.size + 2 ≤ w4.heap.size := by have h1 := HB4.out.size; have := HS2.out; omega
    exact ⟨a7, c7, rfl, HW7.out, (HA7.out.keep (ok' := fun b => w.heap.size ≤ b ∧ b < ((w7.setCell ⟨w.heap.size + 1, 0, none⟩ (.int .i64 (endT x).head)).setCell ⟨w.heap.size + 1, 1, none⟩ (.slice a7 (endT x).args.length c7)).heap.size) (fun b hb => (Below.heap_setCell _ _ _ _ (by have := hb.1; show b ≠ w.heap.size + 1; omega)).trans (Below.heap_setCell _ _ _ _ (by have := hb.1; show b ≠ w.heap.size + 1; omega))) (fun b hb => by have := hb.2; have := hb.1; simp; omega)), (hw7'.setCell (p := ⟨w.heap.size + 1, 0, none⟩) (by simp) _).setCell (p := ⟨w.heap.size + 1, 1, none⟩) (by simp) _⟩
  · have hga : goodH t y = false := by simp [goodH, q2]
    have hT : shfT t y = Z0 := by unfold shfT; rw [hga]; rfl
    have hE : shfE t y = 1 := by unfold shfE; rw [hga]; rfl
    generalize t.check = k at q2 ⊢
    have hne : (k == 0) = false := by simpa using q2
    clear hb4
    go_wp2
    refine bodyPost_ret (v := .tuple #[tm 0 none 0 0, .int .i64 1]) (by simp [results, Tryz.results63, go_sem, r0, r1]) rfl ?_
    first | rw [hT, hE] | skip
    exact ⟨none, 0, rfl, wf_z0, isArgsp_z _ _, (HF.out.setCell (p := ⟨w.heap.size + 1, 0, none⟩) (by simp) _).setCell (p := ⟨w.heap.size + 1, 1, none⟩) (by simp) _⟩

theorem shift_any (t : T) (ht : t.size ≤ 1000000000000) (y : Int) (n₀ : Nat) (at_ : Option Addr) (ct : Nat) (w : World) (hn : n₀ ≤ w.heap.size) (htw : (Lit.int .i64 t.head).wf = true) (hA : IsArgs n₀ w t.args at_ ct) :
    Calls Tryz.prog 63 #[tm t.head at_ t.args.length ct, .int .i64 y] w (TEPost (shfT t y) (shfE t y) w) :=
  (shiftN_any t ht y n₀ at_ ct w hn htw hA).mono fun _ _ ⟨a, c, h1, h2, h3, h4⟩ => ⟨a, c, h1, h2, h3.toArgs (fun b h => h.2), h4⟩

end Go.Proofs.YtbdabdjpgmnejaaGreat
