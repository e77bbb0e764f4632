/- Contracts of the reference's Apply and Shift. -/
import Derived.Test.YtdigccbffphilaaREnd
import Derived.Test.YtdigccbffphilaaRSh
import Derived.Test.YtdigccbffphilaaShf
import Derived.Test.YtdigccbffphilaaSCk
namespace Go.Proofs.Ytdigccbffphilaa
set_option linter.unusedVariables false
set_option linter.unusedSimpArgs false
open Go.RowKit

/-- What the reference's Right of substitutions answers. -/
def RightSAny : Prop := ∀ (s : Sb), (∀ x ∈ s, x.2.size ≤ 1000000) → ∀ (n₀ : Nat) (a : Option Addr) (c : Nat) (w : World), n₀ ≤ w.heap.size → IsBs n₀ w s a c →
  Calls Try.prog 53 #[.slice a s.length c] w fun e w' => e = .returned (.bool (rightS 0 s)) ∧ Below w.heap.size w w'

theorem bl2 {w2 w7 w8 : World} {h : Int} {a : Option Addr} {n c : Nat} (hb : Below w2.heap.size w2 w7) (h8 : w8 = w7.alloc (tmCells h a n c)) : Below w2.heap.size w2 w8 := by
  subst h8
  exact hb.alloc hb.size _

set_option maxRecDepth 100000 in
set_option maxHeartbeats 4000000 in
theorem refApply_any (RS : RightSAny) (s : Sb) (hsz : ∀ x ∈ s, x.2.size ≤ 1000000) (t : T) (ht : t.size ≤ 1000000) (n₀ : Nat) (a : Option Addr) (c : Nat) (at_ : Option Addr) (ct : Nat) (w : World) (hn : n₀ ≤ w.heap.size) (hS : IsBs n₀ w s a c) (htw : (Lit.int .i64 t.head).wf = true) (hA : IsArgs n₀ w t.args at_ ct) :
    Calls Try.prog 23 #[.slice a s.length c, tm t.head at_ t.args.length ct] w (TEPost (appT s t) (appE s t) w) := by
  obtain ⟨w2, hw2⟩ : ∃ w2, (w.alloc (tmCells t.head at_ t.args.length ct)).alloc (tmCells 0 none 0 0) = w2 := ⟨_, rfl⟩
  have hB2 : Below w.heap.size w w2 := by rw [← hw2]; exact ((Below.refl _ w).alloc (Nat.le_refl _) _).alloc (by simp) _
  have hs2 : w2.heap.size = w.heap.size + 2 := by rw [← hw2]; simp
  have L2 := Lib.hid (show ∀ W, Below w2.heap.size w2 W → W.cell? ⟨w.heap.size, 0, none⟩ = some (.int .i64 t.head) ∧ W.cell? ⟨w.heap.size, 1, none⟩ = some (.slice at_ t.args.length ct) ∧ W.cell? ⟨w.heap.size + 1, 0, none⟩ = some (.int .i64 0) ∧ W.cell? ⟨w.heap.size + 1, 1, none⟩ = some (.slice none 0 0) ∧ W.frozen? ⟨w.heap.size + 1, 0, none⟩ = false ∧ W.frozen? ⟨w.heap.size + 1, 1, none⟩ = false from fun W hW =>
    ⟨(hW.cell (p := ⟨w.heap.size, 0, none⟩) (by simp; omega)).trans (by rw [← hw2]; simp [go_sem]), (hW.cell (p := ⟨w.heap.size, 1, none⟩) (by simp; omega)).trans (by rw [← hw2]; simp [go_sem]), (hW.cell (p := ⟨w.heap.size + 1, 0, none⟩) (by simp; omega)).trans (by rw [← hw2]; simp [go_sem]), (hW.cell (p := ⟨w.heap.size + 1, 1, none⟩) (by simp; omega)).trans (by rw [← hw2]; simp [go_sem]), (hW.frozen (p := ⟨w.heap.size + 1, 0, none⟩) (by simp; omega)).trans (by rw [← hw2]; simp [go_sem]), (hW.frozen (p := ⟨w.heap.size + 1, 1, none⟩) (by simp; omega)).trans (by rw [← hw2]; simp [go_sem])⟩)
  have LS := Lib.hid (show ∀ W, Below w2.heap.size w2 W → IsBs n₀ W s a c ∧ IsArgs n₀ W t.args at_ ct ∧ Below w.heap.size w W ∧ n₀ ≤ W.heap.size from fun W hW => by
    have h := hB2.trans (hW.mono hB2.size)
    exact ⟨hS.below (h.mono hn), hA.below (h.mono hn), h, Nat.le_trans hn h.size⟩)
  have HTW := Lib.hid htw
  have HSZ := Lib.hid hsz
  have HS2 := Lib.hid hs2
  have HRS := Lib.hid RS
  clear hS hA hB2 hs2 htw hsz RS
  go_enter Try.func23, Try.ntmps23
  go_wp2_with fail
  have ls := LS.out w2 (Below.refl _ _)
  refine (HRS.out s HSZ.out n₀ a c w2 ls.2.2.2 ls.1).mono ?_
  clear ls hw2
  rintro e w3 ⟨rfl, hb3⟩
  cases q1 : rightS 0 s
  · have hga : goodA s t = false := by simp [goodA, q1]
    have hT : appT s t = Z0 := by unfold appT; rw [hga]; rfl
    have hE : appE s t = 1 := by unfold appE; rw [hga]; rfl
    obtain ⟨_, _, s0, s1, sf0, sf1⟩ := L2.out w3 hb3
    have HF := Lib.hid (LS.out w3 hb3).2.2.1
    clear hb3
    go_wp2
    refine bodyPost_ret (v := .tuple #[tm 0 none 0 0, .int .i64 1]) (by simp [results, Try.results23, go_sem, s0, s1]) rfl ?_
    first | rw [hT, hE] | skip
    exact ⟨none, 0, rfl, wf_z0, isArgs_z _ _, (HF.out.setCell (p := ⟨w.heap.size + 1, 0, none⟩) (by simp) _).setCell (p := ⟨w.heap.size + 1, 1, none⟩) (by simp) _⟩
  · obtain ⟨c0, c1, _, _, _, _⟩ := L2.out w3 hb3
    have HB3 := Lib.hid hb3
    clear hb3
    go_wp2_with fail
    clear c0 c1
    have ls := LS.out w3 HB3.out
    refine (refRight_any t ht n₀ at_ ct w3 ls.2.2.2 ls.2.1).mono ?_
    clear ls
    rintro e w4 ⟨rfl, hb4⟩
    have HB4 := Lib.hid (HB3.out.trans (hb4.mono HB3.out.size))
    clear hb4
    by_cases q2 : t.check = 0
    · rw [decide_eq_true q2]
      have hga : goodA s t = true := by simp [goodA, q1, q2]
      have hT : appT s t = endT (t.sub (ofS s)) := by unfold appT; rw [if_pos hga]
      have hE : appE s t = (t.sub (ofS s)).check := by unfold appE; rw [if_pos hga]
      obtain ⟨hts, _, htg⟩ := check_ok q2
      have hxs : (t.sub (ofS s)).size ≤ 1000000 := Nat.le_trans (sub_bound q1 hts) (by omega)
      obtain ⟨c0, c1, _, _, _, _⟩ := L2.out w4 HB4.out
      go_wp2_with fail
      clear c0 c1
      have ls := LS.out w4 HB4.out
      refine (refSub_any s t.size t (Nat.le_refl _) ht n₀ at_ ct a c w4 ls.2.2.2 HTW.out ls.2.1 ls.1).mono ?_
      clear ls
      generalize t.sub (ofS s) = x at hxs hT hE ⊢
      rintro e w5 ⟨a5, c5, rfl, hw5, hI5, hb5⟩
      have HI5 := Lib.hid hI5
      have HW5 := Lib.hid hw5
      have HB5 := Lib.hid (HB4.out.trans (hb5.mono HB4.out.size))
      have hn5 : n₀ ≤ w5.heap.size := Nat.le_trans (LS.out w4 HB4.out).2.2.2 hb5.size
      have hn4 : w.heap.size + 2 ≤ w4.heap.size := by have := HB4.out.size; have := HS2.out; omega
      clear hI5 hw5 hb5
      go_wp2_with fail
      refine (refEnd_any x hxs _ a5 c5 w5 (fun b h => by rcases h with h | h; omega; exact h.2) HW5.out HI5.out).mono ?_
      rintro e w7 ⟨a7, c7, rfl, hw7, hA7, hb7⟩
      obtain ⟨y, hy⟩ : ∃ y, endT x = y := ⟨_, rfl⟩
      rw [hy] at hw7 hA7 hT ⊢
      have HB7 := Lib.hid (HB5.out.trans (hb7.mono HB5.out.size))
      have hz7 := hb7.size
      obtain ⟨w8, hw8⟩ : ∃ w8, w7.alloc (tmCells y.head a7 y.args.length c7) = w8 := ⟨_, rfl⟩
      have hz8 : w8.heap.size = w7.heap.size + 1 := by rw [← hw8]; simp
      have d0 : w8.cell? ⟨w7.heap.size, 0, none⟩ = some (.int .i64 y.head) := by rw [← hw8]; simp [go_sem]
      have d1 : w8.cell? ⟨w7.heap.size, 1, none⟩ = some (.slice a7 y.args.length c7) := by rw [← hw8]; simp [go_sem]
      have HB8 := Lib.hid (bl2 HB7.out hw8.symm)
      have HA8 := Lib.hid (hA7.keep (ok' := fun b => b ≠ w.heap.size + 1 ∧ b < w8.heap.size) (w' := w8) (fun b hb => by rw [← hw8]; exact Below.heap_alloc _ _ _ (by rcases hb with h | h; omega; have := h.2; omega)) (fun b hb => by rcases hb with h | h; exact ⟨by omega, by omega⟩; exact ⟨by have := h.1; omega, by have := h.2; omega⟩))
      obtain ⟨_, _, s0, s1, sf0, sf1⟩ := L2.out w8 HB8.out
      have HW7 := Lib.hid hw7
      have HF := Lib.hid (LS.out w8 HB8.out).2.2.1
      clear hA7 hb7 hw7
      go_wp2
      refine bodyPost_ret (v := .tuple #[tm y.head a7 y.args.length c7, .int .i64 x.check]) (by simp [results, Try.results23, go_sem, s0, s1]) rfl ?_
      first | rw [hT, hE] | rw [hE] | rw [hT] | skip
      exact ⟨a7, c7, rfl, HW7.out, (HA8.out.keep (ok' := fun b => b < ((w8.setCell ⟨w.heap.size + 1, 0, none⟩ (.int .i64 y.head)).setCell ⟨w.heap.size + 1, 1, none⟩ (.slice a7 y.args.length c7)).heap.size) (fun b hb => (Below.heap_setCell _ _ _ _ hb.1).trans (Below.heap_setCell _ _ _ _ hb.1)) (fun b hb => by simpa using hb.2)).toArgs (fun b h => h), (HF.out.setCell (p := ⟨w.heap.size + 1, 0, none⟩) (by simp) _).setCell (p := ⟨w.heap.size + 1, 1, none⟩) (by simp) _⟩
    · rw [decide_eq_false q2]
      have hga : goodA s t = false := by simp [goodA, q2]
      have hT : appT s t = Z0 := by unfold appT; rw [hga]; rfl
      have hE : appE s t = 1 := by unfold appE; rw [hga]; rfl
      obtain ⟨_, _, s0, s1, sf0, sf1⟩ := L2.out w4 HB4.out
      have HF := Lib.hid (LS.out w4 HB4.out).2.2.1
      go_wp2
      refine bodyPost_ret (v := .tuple #[tm 0 none 0 0, .int .i64 1]) (by simp [results, Try.results23, go_sem, s0, s1]) rfl ?_
      first | rw [hT, hE] | skip
      exact ⟨none, 0, rfl, wf_z0, isArgs_z _ _, (HF.out.setCell (p := ⟨w.heap.size + 1, 0, none⟩) (by simp) _).setCell (p := ⟨w.heap.size + 1, 1, none⟩) (by simp) _⟩

end Go.Proofs.Ytdigccbffphilaa
