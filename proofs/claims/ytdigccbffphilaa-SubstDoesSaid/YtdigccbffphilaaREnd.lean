/- Contract of the reference's end. -/
import Derived.Test.YtdigccbffphilaaApp
namespace Go.Proofs.Ytdigccbffphilaa
set_option linter.unusedVariables false
set_option linter.unusedSimpArgs false
open Go.RowKit

set_option maxRecDepth 100000 in
set_option maxHeartbeats 1000000 in
theorem refEnd_any (x : T) (hx : x.size ≤ 1000000) (ok : Nat → Prop) (a : Option Addr) (c : Nat) (w : World) (hok : ∀ b, ok b → b < w.heap.size) (hwf : (Lit.int .i64 x.head).wf = true) (hA : IsArgsp ok w x.args a c) :
    Calls Try.prog 55 #[tm x.head a x.args.length c] w (TEPostp ok (endT x) x.check w) := by
  obtain ⟨w2, hw2⟩ : ∃ w2, (w.alloc (tmCells x.head a x.args.length c)).alloc (tmCells 0 none 0 0) = w2 := ⟨_, rfl⟩
  have hB2 : Below w.heap.size w w2 := by rw [← hw2]; exact ((Below.refl _ w).alloc (Nat.le_refl _) _).alloc (by simp) _
  have hs2 : w2.heap.size = w.heap.size + 2 := by rw [← hw2]; simp
  have L2 := Lib.hid (show ∀ W, Below w2.heap.size w2 W → W.cell? ⟨w.heap.size, 0, none⟩ = some (.int .i64 x.head) ∧ W.cell? ⟨w.heap.size, 1, none⟩ = some (.slice a x.args.length c) ∧ W.cell? ⟨w.heap.size + 1, 0, none⟩ = some (.int .i64 0) ∧ W.cell? ⟨w.heap.size + 1, 1, none⟩ = some (.slice none 0 0) ∧ W.frozen? ⟨w.heap.size + 1, 0, none⟩ = false ∧ W.frozen? ⟨w.heap.size + 1, 1, none⟩ = false from fun W hW =>
    ⟨(hW.cell (p := ⟨w.heap.size, 0, none⟩) (by simp; omega)).trans (by rw [← hw2]; simp [go_sem]), (hW.cell (p := ⟨w.heap.size, 1, none⟩) (by simp; omega)).trans (by rw [← hw2]; simp [go_sem]), (hW.cell (p := ⟨w.heap.size + 1, 0, none⟩) (by simp; omega)).trans (by rw [← hw2]; simp [go_sem]), (hW.cell (p := ⟨w.heap.size + 1, 1, none⟩) (by simp; omega)).trans (by rw [← hw2]; simp [go_sem]), (hW.frozen (p := ⟨w.heap.size + 1, 0, none⟩) (by simp; omega)).trans (by rw [← hw2]; simp [go_sem]), (hW.frozen (p := ⟨w.heap.size + 1, 1, none⟩) (by simp; omega)).trans (by rw [← hw2]; simp [go_sem])⟩)
  have CC := Lib.hid (refCheck_any x hx w.heap.size a c w2 (by omega) ((hA.toArgs hok).below hB2))
  have HW := Lib.hid hwf
  have HA := Lib.hid hA
  have HB2 := Lib.hid hB2
  clear hwf hA hB2 hs2
  obtain ⟨c0, c1, _, _, _, _⟩ := L2.out w2 (Below.refl _ _)
  go_enter Try.func55, Try.ntmps55
  go_wp2_with fail
  refine CC.out.mono ?_
  rintro e w3 ⟨rfl, hb3⟩
  clear c0 c1 hw2
  obtain ⟨c0, c1, r0, r1, rf0, rf1⟩ := L2.out w3 hb3
  have HB3 := Lib.hid (HB2.out.trans (hb3.mono HB2.out.size))
  have hz3 : w.heap.size ≤ w3.heap.size := HB3.out.size
  clear hb3
  have HE := Lib.hid (show endT x = if x.check = 0 then x else Z0 from rfl)
  by_cases q : x.check = 0
  · rw [q]
    have he : endT x = x := by unfold endT; rw [if_pos q]
    go_wp2
    refine bodyPost_ret (v := .tuple #[tm x.head a x.args.length c, .int .i64 0]) (by simp [results, Try.results55, go_sem, r0, r1]) rfl ?_
    first | rw [he, q] | rw [he] | rw [q] | skip
    exact ⟨a, c, rfl, HW.out, HA.out.keep (fun b hb => ((Below.heap_setCell _ _ _ _ (by have := hok b hb; show b ≠ w.heap.size + 1; omega)).trans (Below.heap_setCell _ _ _ _ (by have := hok b hb; show b ≠ w.heap.size + 1; omega))).trans (HB3.out.block b (hok b hb))) (fun b hb => hb), (HB3.out.setCell (p := ⟨w.heap.size + 1, 0, none⟩) (by simp) _).setCell (p := ⟨w.heap.size + 1, 1, none⟩) (by simp) _⟩
  · have he : endT x = Z0 := by unfold endT; rw [if_neg q]
    generalize hk : x.check = k at q he ⊢
    have HK := Lib.hid hk
    clear hk
    have hne : (k == 0) = false := by simpa using q
    go_wp2
    refine bodyPost_ret (v := .tuple #[tm 0 none 0 0, .int .i64 k]) (by simp [results, Try.results55, go_sem, r0, r1]) rfl ?_
    first | rw [he, HK.out] | rw [HK.out] | rw [he] | skip
    exact ⟨none, 0, rfl, wf_z0, isArgsp_z _ _, (HB3.out.setCell (p := ⟨w.heap.size + 1, 0, none⟩) (by simp) _).setCell (p := ⟨w.heap.size + 1, 1, none⟩) (by simp) _⟩


end Go.Proofs.Ytdigccbffphilaa
