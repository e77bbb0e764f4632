/- Contract of the reference's Put. -/
import Derived.Test.YtdigccbffphilaaRPut
namespace Go.Proofs.Ytdigccbffphilaa
set_option linter.unusedVariables false
set_option linter.unusedSimpArgs false
open Go.RowKit

set_option maxRecDepth 100000 in
set_option maxHeartbeats 4000000 in
theorem refPut_any (t : T) (p : List Int) (u : T) (n₀ : Nat) (a : Option Addr) (c : Nat) (ap : Option Addr) (cp : Nat) (au : Option Addr) (cu : Nat) (w : World) (hn : n₀ ≤ w.heap.size) (hbig : t.size ≤ 1000000) (hwf : (Lit.int .i64 t.head).wf = true) (hu : (Lit.int .i64 u.head).wf = true) (hA : IsArgs n₀ w t.args a c) (hP : IsIs n₀ w p ap cp) (hAu : IsArgs n₀ w u.args au cu) :
    Calls Try.prog 15 #[tm t.head a t.args.length c, .slice ap p.length cp, tm u.head au u.args.length cu] w (PutPost t p u w) := by
  have CA := Lib.hid (show ∀ W, Below w.heap.size w W → Calls Try.prog 13 #[tm t.head a t.args.length c, .slice ap p.length cp] W (AtU n₀ t p W) from fun W hW => (refAt_any p t n₀ a c ap cp W (Nat.le_trans hn hW.size) hwf (hA.below (hW.mono hn)) (hP.below (hW.mono hn))).mono (fun e w' h => atU_of h))
  have CP := Lib.hid (show ∀ W s, Below w.heap.size w W → t.at p = some s → Calls Try.prog 40 #[tm t.head a t.args.length c, .slice ap p.length cp, tm u.head au u.args.length cu] W (RPutPost (t.put u p) n₀ W) from fun W s hW hs => refPut0_any u hu p t s n₀ a c ap cp au cu W (Nat.le_trans hn hW.size) hbig hwf (hA.below (hW.mono hn)) (hP.below (hW.mono hn)) (hAu.below (hW.mono hn)) hs)
  clear hA hP hAu
  go_enter Try.func15, Try.ntmps15
  go_wp2_with fail
  obtain ⟨w3, hw3⟩ : ∃ w3, ((w.alloc (tmCells t.head a t.args.length c)).alloc (tmCells u.head au u.args.length cu)).alloc (tmCells 0 none 0 0) = w3 := ⟨_, rfl⟩
  have hB3 : Below w.heap.size w w3 := by rw [← hw3]; exact (((Below.refl _ w).alloc (Nat.le_refl _) _).alloc (by simp) _).alloc (by simp; omega) _
  have hs3 : w3.heap.size = w.heap.size + 3 := by rw [← hw3]; simp
  have hq : ∀ W, Below w3.heap.size w3 W → W.cell? ⟨w.heap.size, 0, none⟩ = some (.int .i64 t.head) ∧ W.cell? ⟨w.heap.size, 1, none⟩ = some (.slice a t.args.length c) ∧ W.cell? ⟨w.heap.size + 1, 0, none⟩ = some (.int .i64 u.head) ∧ W.cell? ⟨w.heap.size + 1, 1, none⟩ = some (.slice au u.args.length cu) ∧
      W.cell? ⟨w.heap.size + 2, 0, none⟩ = some (.int .i64 0) ∧ W.cell? ⟨w.heap.size + 2, 1, none⟩ = some (.slice none 0 0) ∧ W.frozen? ⟨w.heap.size + 2, 0, none⟩ = false ∧ W.frozen? ⟨w.heap.size + 2, 1, none⟩ = false := fun W hW => by
    refine ⟨(hW.cell (p := ⟨w.heap.size, 0, none⟩) (by simp; omega)).trans ?_, (hW.cell (p := ⟨w.heap.size, 1, none⟩) (by simp; omega)).trans ?_, (hW.cell (p := ⟨w.heap.size + 1, 0, none⟩) (by simp; omega)).trans ?_, (hW.cell (p := ⟨w.heap.size + 1, 1, none⟩) (by simp; omega)).trans ?_, (hW.cell (p := ⟨w.heap.size + 2, 0, none⟩) (by simp; omega)).trans ?_, (hW.cell (p := ⟨w.heap.size + 2, 1, none⟩) (by simp; omega)).trans ?_, (hW.frozen (p := ⟨w.heap.size + 2, 0, none⟩) (by simp; omega)).trans ?_, (hW.frozen (p := ⟨w.heap.size + 2, 1, none⟩) (by simp; omega)).trans ?_⟩ <;> (rw [← hw3]; simp [go_sem])
  rw [hw3]
  have HQ := Lib.hid hq
  clear hq hw3
  refine (CA.out w3 hB3).mono ?_
  rintro e w4 ⟨hd4, av, nv, cv, bv, rfl, hb4, hend⟩
  obtain ⟨t0, t1, u0, u1, r0, r1, f0, f1⟩ := HQ.out w4 hb4
  have HB := Lib.hid (hB3.trans (hb4.mono hB3.size))
  have HB4 := Lib.hid hb4
  have hs4 := hb4.size
  have hx0 : w.heap.size < w4.heap.size := by omega
  have hx1 : w.heap.size + 1 < w4.heap.size := by omega
  have hx2 : w.heap.size + 2 < w4.heap.size := by omega
  clear hb4
  rcases hend with ⟨s, hs, rfl, rfl, rfl, _, _⟩ | ⟨hs, rfl, rfl, rfl, rfl, rfl⟩
  · have HS := Lib.hid hs
    clear hs
    go_wp2_with fail
    clear t0 t1 u0 u1 r0 r1 f0 f1
    refine (CP.out _ s (HB.out.alloc HB.out.size _) HS.out).mono ?_
    rintro e w5 ⟨a2, c2, rfl, hwf5, hI5, hb5⟩
    have h45 := (HB4.out.alloc HB4.out.size _).trans (hb5.mono (by simp; omega))
    obtain ⟨t0, t1, u0, u1, r0, r1, f0, f1⟩ := HQ.out w5 h45
    have HI := Lib.hid hI5
    have HB5 := Lib.hid ((HB.out.alloc HB.out.size _).trans (hb5.mono (by simp; omega)))
    have hs5 := hb5.size
    have HW5 := Lib.hid hwf5
    clear hI5 hb5 h45 hwf5
    go_wp2
    refine bodyPost_ret (v := .tuple #[tm (t.put u p).head a2 (t.put u p).args.length c2, .int .i64 0]) (by simp [results, Try.results15, go_sem, r0, r1]) rfl (.inl ⟨s, a2, c2, HS.out, rfl, HW5.out, ?_, ?_⟩)
    · refine (HI.out.keep (ok' := fun b => b < w5.heap.size) (fun b hb => ?_) (fun b hb => by simp at hs5 hb ⊢; omega)).toArgs (fun b hb => by simpa using hb)
      have hne : b ≠ w.heap.size + 2 := by simp at hb; omega
      exact (Below.heap_setCell _ _ _ _ (by simpa using hne)).trans (Below.heap_setCell _ _ _ _ (by simpa using hne))
    · exact (HB5.out.setCell (p := ⟨w.heap.size + 2, 0, none⟩) (by simp) _).setCell (p := ⟨w.heap.size + 2, 1, none⟩) (by simp) _
  · have HS := Lib.hid hs
    clear hs
    go_wp2
    have hx3 : w.heap.size + 1 + 1 < w4.heap.size := hx2
    have hx4 : w.heap.size + 1 + 1 ≠ w4.heap.size := by omega
    refine bodyPost_ret (v := .tuple #[tm 0 none 0 0, .int .i64 6]) (by simp [results, Try.results15, go_sem, r0, r1, hx2, hx3, hx4]) rfl (.inr ⟨HS.out, rfl, ?_⟩)
    exact ((HB.out.setCell (p := ⟨w.heap.size + 2, 0, none⟩) (by simp) _).setCell (p := ⟨w.heap.size + 2, 1, none⟩) (by simp) _).alloc (by simp; omega) _

end Go.Proofs.Ytdigccbffphilaa
