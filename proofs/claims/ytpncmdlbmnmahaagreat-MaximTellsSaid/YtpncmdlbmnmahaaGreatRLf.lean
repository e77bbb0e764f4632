/- Contract of the document's Apply: where the answer lies. -/
import Derived.Test.YtpncmdlbmnmahaaGreatQBx
import Derived.Test.YtpncmdlbmnmahaaGreatQBv
import Derived.Test.YtpncmdlbmnmahaaGreatQBw
namespace Go.Proofs.YtpncmdlbmnmahaaGreat
set_option linter.unusedVariables false
set_option linter.unusedSimpArgs false
open Go.RowKit
set_option maxRecDepth 100000 in
set_option maxHeartbeats 8000000 in
theorem rLitApplyF_any (s : Sb) (hsz : ∀ x ∈ s, x.2.size ≤ 1000000000000) (x : LV) (hx : x.sz) (n₀ : Nat) (a : Option Addr) (c : Nat) (w : World) (hn : n₀ ≤ w.heap.size) (hS : IsBs n₀ w s a c) (hX : IsLv n₀ w x) :
    Calls Tryz.prog 49 #[.slice a s.length c, x.v] w (LePostF n₀ (apN s x) (apL s x) (apR s x) (apK s x) w) := by
  have C1 := Lib.hid (fun (W : World) (hW : Below w.heap.size w W) => refApplyF_any refRightS_any s hsz x.l hx.1 n₀ a c x.pa x.ca W (Nat.le_trans hn hW.size) (hS.below (hW.mono hn)) hX.lw (hX.below (hW.mono hn)).la)
  have C2 := Lib.hid (fun (W : World) (hW : Below w.heap.size w W) => refApplyF_any refRightS_any s hsz x.r hx.2 n₀ a c x.pb x.cb W (Nat.le_trans hn hW.size) (hS.below (hW.mono hn)) hX.rw (hX.below (hW.mono hn)).ra)
  have d0 := ((Later.below (Below.refl _ w)).pushB (Below.refl _ _) x).pushB (Below.refl _ _) LV.zero
  simp only [heap_alloc_size] at d0
  have D := Lib.hid d0
  clear d0 hS hX hsz hx
  have hs1 : ((w.alloc x.obj).alloc LV.zero.obj).heap.size = w.heap.size + 2 := by simp
  obtain ⟨w1, hw1⟩ : ∃ w1, (w.alloc x.obj).alloc LV.zero.obj = w1 := ⟨_, rfl⟩
  rw [hw1] at D hs1
  have hw1' : (w.alloc x.obj).alloc (.cells #[.bool false, .int .i64 0, .slice none 0 0, .int .i64 0, .slice none 0 0] 44) = w1 := hw1
  have HW1 := Lib.hid hw1'
  clear hw1 hw1'
  go_enter Tryz.func49, Tryz.ntmps49
  go_wp2_with fail
  rw [HW1.out]
  clear HW1
  refine (C1.out w1 D.out.now.2.2).mono ?_
  rintro e w2 ⟨a2, c2, rfl, hwf2, hA2, hb2⟩
  have hs2 := hb2.size
  obtain ⟨w3, hw3⟩ : ∃ w3, w2.alloc (tmCells (appT s x.l).head a2 (appT s x.l).args.length c2) = w3 := ⟨_, rfl⟩
  have hb3 : Below w2.heap.size w2 w3 := by rw [← hw3]; exact (Below.refl _ _).alloc (Nat.le_refl _) _
  have hs3 := hb3.size
  have d3 := (D.out.mv hb2).push (Below.refl _ _) (appT s x.l).head a2 (appT s x.l).args.length c2
  rw [hw3] at d3
  have D3 := Lib.hid d3
  have KA := Lib.hid ((knf_of (b0 := w.heap.size + 1) (m := w.heap.size) hA2 (by omega) (by omega) (by omega)).mv hb3)
  have HWF2 := Lib.hid hwf2
  clear d3 hb2 hb3 hA2 hwf2 D C1
  by_cases h1 : appE s x.l = 0
  case neg =>
    obtain ⟨k, hk⟩ : ∃ k, appE s x.l = k := ⟨_, rfl⟩
    have HE := Lib.hid (ap_bad (s := s) (x := x) (k := k) (by unfold apK; rw [if_neg h1]; exact hk) (by rw [← hk]; exact h1))
    have HQ := Lib.hid D3.out.now.2.2.2
    have hz := D3.out.now.2.1
    obtain ⟨z0, z1, z2, z3, z4⟩ := hz.lc
    obtain ⟨q0, q1, q2, q3, q4⟩ := hz.lf
    simp only [LV.zero, T.head, T.args, List.length_nil] at z0 z1 z2 z3 z4
    clear hz
    rw [hk] at h1 ⊢
    have h2 : (k != 0) = true := by simpa using h1
    clear h1 hk D3 KA
    go_wp2
    refine bodyPost_ret (v := .tuple #[LV.zero.v, .int .i64 k]) (by simp [results, Tryz.results49, go_sem, z0, z1, z2, z3, z4, LV.zero, T.head, T.args]) rfl ?_
    exact ⟨LV.zero, by rw [HE.out.2.2.2], HE.out.1.symm, HE.out.2.1.symm, HE.out.2.2.1.symm, lvp_zero _ _, bl_sets HQ.out (by omega) _ _ _ _ _⟩
  have H1 := Lib.hid h1
  rw [h1]
  clear h1
  obtain ⟨x0, x1, x2, x3, x4⟩ := D3.out.now.2.2.1.lc
  go_wp2_with fail
  clear x0 x1 x2 x3 x4
  refine (C2.out w3 D3.out.now.2.2.2).mono ?_
  rintro e w4 ⟨a4, c4, rfl, hwf4, hA4, hb4⟩
  have hs4 := hb4.size
  obtain ⟨w5, hw5⟩ : ∃ w5, w4.alloc (tmCells (appT s x.r).head a4 (appT s x.r).args.length c4) = w5 := ⟨_, rfl⟩
  have hb5 : Below w4.heap.size w4 w5 := by rw [← hw5]; exact (Below.refl _ _).alloc (Nat.le_refl _) _
  have hs5 := hb5.size
  have d5 := (D3.out.mv hb4).push (Below.refl _ _) (appT s x.r).head a4 (appT s x.r).args.length c4
  rw [hw5] at d5
  have D5 := Lib.hid d5
  have KB := Lib.hid ((knf_of (b0 := w.heap.size + 1) (m := w.heap.size) hA4 (by omega) (by omega) (by omega)).mv hb5)
  have KA5 := Lib.hid ((KA.out.mv hb4).mv hb5)
  have HWF4 := Lib.hid hwf4
  clear d5 hb4 hb5 hA4 hwf4 D3 C2 KA hw3
  have hz := D5.out.now.2.2.1
  have hxx := D5.out.now.2.2.2.1
  obtain ⟨z0, z1, z2, z3, z4⟩ := hz.lc
  obtain ⟨q0, q1, q2, q3, q4⟩ := hz.lf
  simp only [LV.zero, T.head, T.args, List.length_nil] at z0 z1 z2 z3 z4
  have HQ := Lib.hid D5.out.now.2.2.2.2
  by_cases h2 : appE s x.r = 0
  case neg =>
    obtain ⟨k, hk⟩ : ∃ k, appE s x.r = k := ⟨_, rfl⟩
    have HE := Lib.hid (ap_bad (s := s) (x := x) (k := k) (by unfold apK; rw [if_pos H1.out]; exact hk) (by rw [← hk]; exact h2))
    clear hz hxx
    rw [hk] at h2 ⊢
    have h3 : (k != 0) = true := by simpa using h2
    clear h2 hk D5 KB KA5
    go_wp2
    refine bodyPost_ret (v := .tuple #[LV.zero.v, .int .i64 k]) (by simp [results, Tryz.results49, go_sem, z0, z1, z2, z3, z4, LV.zero, T.head, T.args]) rfl ?_
    exact ⟨LV.zero, by rw [HE.out.2.2.2], HE.out.1.symm, HE.out.2.1.symm, HE.out.2.2.1.symm, lvp_zero _ _, bl_sets HQ.out (by omega) _ _ _ _ _⟩
  have HE := Lib.hid (ap_ok (s := s) (x := x) (by unfold apK; rw [if_pos H1.out]; exact h2))
  rw [h2]
  clear h2
  obtain ⟨x0, _, _, _, _⟩ := hxx.lc
  obtain ⟨⟨u0, u1⟩, ⟨v0, v1⟩, _⟩ := D5.out.now
  clear hz hxx D5
  generalize appT s x.l = y1 at HE HWF2 KA5 v0 v1 ⊢
  generalize appT s x.r = y2 at HE HWF4 KB u0 u1 hw5 ⊢
  go_wp2
  refine bodyPost_ret (v := .tuple #[(LV.mk x.n y1 y2 a2 c2 a4 c4).v, .int .i64 0]) (by simp [results, Tryz.results49, go_sem, z0, z1, z2, z3, z4]) rfl ?_
  exact ⟨LV.mk x.n y1 y2 a2 c2 a4 c4, by rw [HE.out.2.2.2], HE.out.1.symm, HE.out.2.1.symm, HE.out.2.2.1.symm, ⟨HWF2.out, HWF4.out, KA5.out.sets _ _ _ _ _, KB.out.sets _ _ _ _ _⟩, bl_sets HQ.out (by omega) _ _ _ _ _⟩
end Go.Proofs.YtpncmdlbmnmahaaGreat
