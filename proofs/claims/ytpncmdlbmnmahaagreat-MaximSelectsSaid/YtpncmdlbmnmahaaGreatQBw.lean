/- QBw: joined of RRt, RLa, Rg, Rv1, Rcm, Hd. -/
import Derived.Test.YtpncmdlbmnmahaaGreatQBu
import Derived.Test.YtpncmdlbmnmahaaGreatQBr
import Derived.Test.YtpncmdlbmnmahaaGreatQBc
import Derived.Test.YtpncmdlbmnmahaaGreatQBg
import Derived.Test.YtpncmdlbmnmahaaGreatQBh
import Derived.Test.YtpncmdlbmnmahaaGreatQBq
import Derived.Test.YtpncmdlbmnmahaaGreatQBn
import Derived.Lib.QuietBelow
import Derived.Deep.CutRange
import Derived.Test.YtpncmdlbmnmahaaGreatQBo
import Derived.Test.YtpncmdlbmnmahaaGreatQBv
import Derived.Test.YtpncmdlbmnmahaaGreatQBm
import Derived.Test.YtpncmdlbmnmahaaGreatQBb
import Derived.Deep.RegionLaw
import Derived.Test.YtpncmdlbmnmahaaGreatQBf
import Derived.Test.YtpncmdlbmnmahaaGreatQBs
import Derived.Test.YtpncmdlbmnmahaaGreatQBl
import Derived.BigQuiet
import Derived.Deep.QuietTactic
import Derived.Deep.RegionHeld3
import Derived.Test.YtpncmdlbmnmahaaGreatQBe
/- Contracts of the reference's Right and Check of substitutions. -/
namespace Go.Proofs.YtpncmdlbmnmahaaGreat
set_option linter.unusedVariables false
set_option linter.unusedSimpArgs false
open Go.RowKit Go.Sort
def RtI (s : Sb) (w : World) (i : Value) (wr : World) : Prop := ∃ (k : Nat) (z : Int), k ≤ s.length ∧ i = .int .i64 k ∧ ((k = 0 ∧ z = 0) ∨ ∃ y u, 0 < k ∧ s[k - 1]? = some (y, u) ∧ z = y + 1 ∧ 0 ≤ y ∧ y ≤ 255) ∧ rightS 0 s = rightS z (s.drop k) ∧ Below w.heap.size w wr
set_option maxRecDepth 100000 in
set_option maxHeartbeats 40000000 in
theorem refRightS_any (s : Sb) (hsz : ∀ x ∈ s, x.2.size ≤ 1000000000000) (n₀ : Nat) (a : Option Addr) (c : Nat) (w : World) (hn : n₀ ≤ w.heap.size) (hS : IsBs n₀ w s a c) :
    Calls Tryz.prog 92 #[.slice a s.length c] w fun e w' => e = .returned (.bool (rightS 0 s)) ∧ Below w.heap.size w w' := by
  have hl : s.length ≤ c ∧ c ≤ maxLen := ⟨hS.1, hS.2.1⟩
  unfold maxLen at hl
  obtain ⟨hl1, hl2⟩ := hl
  have HS := Lib.hid hS
  have HZ := Lib.hid hsz
  clear hS hsz
  go_enter Tryz.func92, Tryz.ntmps92
  go_wp2
  go_loopw [3] (fun i wr => RtI s w i wr) (fun i _ => s.length - (intOf i).toNat)
  case atStart => exact ⟨0, 0, Nat.zero_le _, rfl, .inl ⟨rfl, rfl⟩, rfl, Below.refl _ _⟩
  case round =>
    obtain ⟨k, z, hk, rfl, hpr, hrt, hB⟩ := hrel
    have HR := Lib.hid hrt
    have HB := Lib.hid hB
    have hbz := hB.size
    clear hrt hB
    by_cases hlt : k < s.length
    · obtain ⟨b, o, x, t, a', c', rfl, hbn, hsk, hxw, htw, hc0, hc1, hc2, hA'⟩ := (HS.out.below (HB.out.mono hn)).elem (i := k) hlt
      have hk0 : (0 : Int) ≤ (k : Int) := Int.natCast_nonneg _
      have hk1 : (k : Int) < (s.length : Int) := by omega
      have HSK := Lib.hid hsk
      have HST := Lib.hid (rightS_step (l := z) hsk)
      have hts : t.size ≤ 1000000000000 := HZ.out (x, t) (List.mem_of_getElem? hsk)
      obtain ⟨hx1, hx2⟩ := wf_low hxw
      have hbw : b < wr.heap.size := by omega
      have hnw : n₀ ≤ wr.heap.size := by omega
      have C1 : Hid (∀ W, Below wr.heap.size wr W → Calls Tryz.prog 93 #[tm t.head a' t.args.length c'] W fun e w' => e = .returned (.bool (decide (t.check = 0))) ∧ Below W.heap.size W w') := Lib.hid (fun W hW => refRight_any t hts n₀ a' c' W (Nat.le_trans hnw hW.size) (hA'.below (hW.mono hnw)))
      have hz0 : 0 ≤ z ∧ z ≤ 256 := by rcases hpr with ⟨_, h⟩ | ⟨y, u, _, _, h, h2, h3⟩ <;> omega
      clear hsk htw hxw hA' hts
      obtain ⟨tst, htst⟩ : ∃ tst : Bool, tst = (decide (z ≤ x) && decide (x ≤ 255) && decide (t.check = 0) && decide (t.head ≠ -1 - x)) := ⟨_, rfl⟩
      have HTST := Lib.hid htst
      have hprev : ∀ y u, s[k - 1]? = some (y, u) → 0 < k → wr.cell? ⟨b, o + (k - 1) * 3, none⟩ = some (.int .i64 y) := fun y u hp hk0 => by
        obtain ⟨b2, o2, y2, u2, _, _, e1, _, e2, _, _, e3, _⟩ := (HS.out.below (HB.out.mono hn)).elem (i := k - 1) (by omega)
        cases e1
        rw [hp] at e2
        cases e2
        exact e3
      have HPR := Lib.hid hprev
      clear HS HZ hprev
      go_wp2
      go_cut [65] from 10 to 65 (fun v65 wx => v65 = .bool (!tst) ∧ Below wr.heap.size wr wx)
      case first =>
        clear HSK HST HR HB
        have f0 := fun d os => cell_regrown hc0 d os
        have f1 := fun d os => cell_regrown hc1 d os
        have f2 := fun d os => cell_regrown hc2 d os
        refine wp_region_wq (by kernel_rfl) (by kernel_rfl) ?_
        by_cases q1 : x < 0
        · clear HPR HTST
          repeat (first
            | (refine WQ.skip (by rfl) ?_; simp only [Act.put, List.setIfInBounds_toArray, List.set_cons_succ, List.set_cons_zero])
            | (apply WQ.two (by rfl); (intro w' hw'; obtain ⟨pq, rfl⟩ := hw'; go_simp; first | (with_reducible exact Calls.regrown_of (C1.out _ (below_regrown _ _ _))) | exact rfl); simp only [Act.put, List.setIfInBounds_toArray, List.set_cons_succ, List.set_cons_zero]))
          refine WQ.nil ?_
          intro _ hw'
          obtain ⟨⟨dq, osq⟩, hw''⟩ := hw'
          subst hw''
          go_wp2
          go_meet
          exact ⟨by rw [htst]; rw [decide_eq_false (show ¬ z ≤ x from by omega)]; simp, below_regrown wr dq osq⟩
        by_cases q2 : 255 < x
        · clear HPR HTST
          repeat (first
            | (refine WQ.skip (by rfl) ?_; simp only [Act.put, List.setIfInBounds_toArray, List.set_cons_succ, List.set_cons_zero])
            | (apply WQ.two (by rfl); (intro w' hw'; obtain ⟨pq, rfl⟩ := hw'; go_simp; first | (with_reducible exact Calls.regrown_of (C1.out _ (below_regrown _ _ _))) | exact rfl); simp only [Act.put, List.setIfInBounds_toArray, List.set_cons_succ, List.set_cons_zero]))
          refine WQ.nil ?_
          intro _ hw'
          obtain ⟨⟨dq, osq⟩, hw''⟩ := hw'
          subst hw''
          go_wp2
          go_meet
          exact ⟨by rw [htst]; rw [decide_eq_false (show ¬ x ≤ 255 from by omega)]; simp, below_regrown wr dq osq⟩
        rcases hpr with ⟨rfl, rfl⟩ | ⟨y, u, hkp, hprev, rfl, hy0, hy1⟩
        · clear HPR HTST f0 f1 f2
          simp only [Nat.zero_mul, Nat.add_zero] at hc0 hc1 hc2
          have hk2 : (0 : Int) < (s.length : Int) := by simpa using hk1
          have hk3 : 0 < s.length := hlt
          have hwx := IntWalk.i64_in (-1 - x) ⟨by omega, by omega⟩
          have f0 := fun d os => cell_regrown hc0 d os
          have f1 := fun d os => cell_regrown hc1 d os
          have f2 := fun d os => cell_regrown hc2 d os
          by_cases q4 : t.check = 0
          · rw [decide_eq_true q4] at C1
            by_cases q5 : t.head = -1 - x
            · have q5b : (t.head == -1 - x) = true := by simpa using q5
              have Q5 := Lib.hid q5
              clear q5
              repeat (first
                | (refine WQ.skip (by rfl) ?_; simp only [Act.put, List.setIfInBounds_toArray, List.set_cons_succ, List.set_cons_zero])
                | (apply WQ.two (by rfl); (intro w' hw'; obtain ⟨pq, rfl⟩ := hw'; go_simp; first | (with_reducible exact Calls.regrown_of (C1.out _ (below_regrown _ _ _))) | exact rfl); simp only [Act.put, List.setIfInBounds_toArray, List.set_cons_succ, List.set_cons_zero]))
              refine WQ.nil ?_
              intro _ hw'
              obtain ⟨⟨dq, osq⟩, hw''⟩ := hw'
              subst hw''
              go_wp2
              go_meet
              exact ⟨by rw [htst]; rw [decide_eq_false (show ¬ t.head ≠ -1 - x from fun h => h Q5.out)]; simp, below_regrown wr dq osq⟩
            · have q5b : (t.head == -1 - x) = false := by simpa using q5
              repeat (first
                | (refine WQ.skip (by rfl) ?_; simp only [Act.put, List.setIfInBounds_toArray, List.set_cons_succ, List.set_cons_zero])
                | (apply WQ.two (by rfl); (intro w' hw'; obtain ⟨pq, rfl⟩ := hw'; go_simp; first | (with_reducible exact Calls.regrown_of (C1.out _ (below_regrown _ _ _))) | exact rfl); simp only [Act.put, List.setIfInBounds_toArray, List.set_cons_succ, List.set_cons_zero]))
              refine WQ.nil ?_
              intro _ hw'
              obtain ⟨⟨dq, osq⟩, hw''⟩ := hw'
              subst hw''
              go_wp2
              go_meet
              exact ⟨by rw [htst]; rw [decide_eq_true (show 0 ≤ x from by omega), decide_eq_true (show x ≤ 255 from by omega), decide_eq_true q4, decide_eq_true (show t.head ≠ -1 - x from q5)]; simp, below_regrown wr dq osq⟩
          · rw [decide_eq_false q4] at C1
            repeat (first
              | (refine WQ.skip (by rfl) ?_; simp only [Act.put, List.setIfInBounds_toArray, List.set_cons_succ, List.set_cons_zero])
              | (apply WQ.two (by rfl); (intro w' hw'; obtain ⟨pq, rfl⟩ := hw'; go_simp; first | (with_reducible exact Calls.regrown_of (C1.out _ (below_regrown _ _ _))) | exact rfl); simp only [Act.put, List.setIfInBounds_toArray, List.set_cons_succ, List.set_cons_zero]))
            refine WQ.nil ?_
            intro _ hw'
            obtain ⟨⟨dq, osq⟩, hw''⟩ := hw'
            subst hw''
            go_wp2
            go_meet
            exact ⟨by rw [htst]; rw [decide_eq_false q4]; simp, below_regrown wr dq osq⟩
        · have hcp := HPR.out y u hprev hkp
          obtain ⟨k', rfl⟩ : ∃ k', k = k' + 1 := ⟨k - 1, by omega⟩
          rw [Nat.add_sub_cancel] at hcp
          have hk' : (0 : Int) ≤ (k' : Int) := Int.natCast_nonneg _
          have hkl : (k' : Int) < (s.length : Int) := by omega
          have hgt : (0 : Int) < (k' : Int) + 1 := by omega
          have hi0 : (0 : Int) ≤ (k' : Int) + 1 := by omega
          have hi1 : (k' : Int) + 1 < (s.length : Int) := by omega
          have hwx := IntWalk.i64_in (-1 - x) ⟨by omega, by omega⟩
          have hwk := IntWalk.i64_in (k' : Int) ⟨by omega, by omega⟩
          have f3 := fun d os => cell_regrown hcp d os
          clear hprev hkp HPR HTST
          by_cases q3 : x ≤ y
          · skip
            repeat (first
              | (refine WQ.skip (by rfl) ?_; simp only [Act.put, List.setIfInBounds_toArray, List.set_cons_succ, List.set_cons_zero])
              | (apply WQ.two (by rfl); (intro w' hw'; obtain ⟨pq, rfl⟩ := hw'; go_simp; first | (with_reducible exact Calls.regrown_of (C1.out _ (below_regrown _ _ _))) | exact rfl); simp only [Act.put, List.setIfInBounds_toArray, List.set_cons_succ, List.set_cons_zero]))
            refine WQ.nil ?_
            intro _ hw'
            obtain ⟨⟨dq, osq⟩, hw''⟩ := hw'
            subst hw''
            go_wp2
            go_meet
            exact ⟨by rw [htst]; rw [decide_eq_false (show ¬ y + 1 ≤ x from by omega)]; simp, below_regrown wr dq osq⟩
          by_cases q4 : t.check = 0
          · rw [decide_eq_true q4] at C1
            by_cases q5 : t.head = -1 - x
            · have q5b : (t.head == -1 - x) = true := by simpa using q5
              have Q5 := Lib.hid q5
              clear q5
              repeat (first
                | (refine WQ.skip (by rfl) ?_; simp only [Act.put, List.setIfInBounds_toArray, List.set_cons_succ, List.set_cons_zero])
                | (apply WQ.two (by rfl); (intro w' hw'; obtain ⟨pq, rfl⟩ := hw'; go_simp; first | (with_reducible exact Calls.regrown_of (C1.out _ (below_regrown _ _ _))) | exact rfl); simp only [Act.put, List.setIfInBounds_toArray, List.set_cons_succ, List.set_cons_zero]))
              refine WQ.nil ?_
              intro _ hw'
              obtain ⟨⟨dq, osq⟩, hw''⟩ := hw'
              subst hw''
              go_wp2
              go_meet
              exact ⟨by rw [htst]; rw [decide_eq_false (show ¬ t.head ≠ -1 - x from fun h => h Q5.out)]; simp, below_regrown wr dq osq⟩
            · have q5b : (t.head == -1 - x) = false := by simpa using q5
              repeat (first
                | (refine WQ.skip (by rfl) ?_; simp only [Act.put, List.setIfInBounds_toArray, List.set_cons_succ, List.set_cons_zero])
                | (apply WQ.two (by rfl); (intro w' hw'; obtain ⟨pq, rfl⟩ := hw'; go_simp; first | (with_reducible exact Calls.regrown_of (C1.out _ (below_regrown _ _ _))) | exact rfl); simp only [Act.put, List.setIfInBounds_toArray, List.set_cons_succ, List.set_cons_zero]))
              refine WQ.nil ?_
              intro _ hw'
              obtain ⟨⟨dq, osq⟩, hw''⟩ := hw'
              subst hw''
              go_wp2
              go_meet
              exact ⟨by rw [htst]; rw [decide_eq_true (show y + 1 ≤ x from by omega), decide_eq_true (show x ≤ 255 from by omega), decide_eq_true q4, decide_eq_true (show t.head ≠ -1 - x from q5)]; simp, below_regrown wr dq osq⟩
          · rw [decide_eq_false q4] at C1
            repeat (first
              | (refine WQ.skip (by rfl) ?_; simp only [Act.put, List.setIfInBounds_toArray, List.set_cons_succ, List.set_cons_zero])
              | (apply WQ.two (by rfl); (intro w' hw'; obtain ⟨pq, rfl⟩ := hw'; go_simp; first | (with_reducible exact Calls.regrown_of (C1.out _ (below_regrown _ _ _))) | exact rfl); simp only [Act.put, List.setIfInBounds_toArray, List.set_cons_succ, List.set_cons_zero]))
            refine WQ.nil ?_
            intro _ hw'
            obtain ⟨⟨dq, osq⟩, hw''⟩ := hw'
            subst hw''
            go_wp2
            go_meet
            exact ⟨by rw [htst]; rw [decide_eq_false q4]; simp, below_regrown wr dq osq⟩
      case rest =>
        obtain ⟨rfl, hbx⟩ := hcut
        have HBX := Lib.hid (HB.out.trans (hbx.mono HB.out.size))
        clear hbx
        cases tst
        · have hd : rightS 0 s = false := by rw [HR.out, HST.out, ← HTST.out]; rfl
          go_wp2
          go_ret
          exact ⟨by first | (rw [hd]; rfl) | rfl, HBX.out⟩
        · have hq := HTST.out
          simp only [Bool.true_eq, Bool.and_eq_true, decide_eq_true_iff] at hq
          have HQ := Lib.hid hq
          have hst := HST.out
          rw [← HTST.out] at hst
          have HST' := Lib.hid hst
          clear hq hst
          go_wp2
          go_roundw
          case rel =>
            have hq := HQ.out
            refine ⟨k + 1, x + 1, by omega, by go_num, .inr ⟨x, t, by omega, by simpa using HSK.out, rfl, by omega, by omega⟩, ?_, HBX.out⟩
            rw [HR.out, HST'.out]
            rfl
          case measure => simp [intOf]; omega
    · have hd : rightS 0 s = true := by rw [HR.out, List.drop_of_length_le (by omega)]; rfl
      go_wp2
      go_ret
      exact ⟨by first | (rw [hd]; rfl) | rfl, HB.out⟩
end Go.Proofs.YtpncmdlbmnmahaaGreat

/- Contract of the document's Apply of literals. -/
namespace Go.Proofs.YtpncmdlbmnmahaaGreat
set_option linter.unusedVariables false
set_option linter.unusedSimpArgs false
open Go.RowKit
set_option maxRecDepth 100000 in
set_option maxHeartbeats 8000000 in
theorem rLitApply_any (s : Sb) (hsz : ∀ x ∈ s, x.2.size ≤ 1000000000000) (x : LV) (hx : x.sz) (n₀ : Nat) (a : Option Addr) (c : Nat) (w : World) (hn : n₀ ≤ w.heap.size) (hS : IsBs n₀ w s a c) (hX : IsLv n₀ w x) :
    Calls Tryz.prog 49 #[.slice a s.length c, x.v] w (LePost (apN s x) (apL s x) (apR s x) (apK s x) w) := by
  have hS0 := hS.mono hn
  have hX0 := hX.mono hn
  have C1 := Lib.hid (fun (W : World) (hW : Below w.heap.size w W) => refApplyF_any refRightS_any s hsz x.l hx.1 w.heap.size a c x.pa x.ca W hW.size (hS0.below hW) hX0.lw (hX0.below hW).la)
  have C2 := Lib.hid (fun (W : World) (hW : Below w.heap.size w W) => refApplyF_any refRightS_any s hsz x.r hx.2 w.heap.size a c x.pb x.cb W hW.size (hS0.below hW) hX0.rw (hX0.below hW).ra)
  have d0 := ((Later.below (Below.refl _ w)).pushB (Below.refl _ _) x).pushB (Below.refl _ _) LV.zero
  simp only [heap_alloc_size] at d0
  have D := Lib.hid d0
  clear d0 hS hX hS0 hX0 hsz hx
  have hs1 : ((w.alloc x.obj).alloc LV.zero.obj).heap.size = w.heap.size + 2 := by simp
  obtain ⟨w1, hw1⟩ : ∃ w1, (w.alloc x.obj).alloc LV.zero.obj = w1 := ⟨_, rfl⟩
  rw [hw1] at D hs1
  have hw1' : (w.alloc x.obj).alloc (.cells #[.bool false, .int .i64 0, .slice none 0 0, .int .i64 0, .slice none 0 0] 44) = w1 := hw1
  have HW1 := Lib.hid hw1'
  clear hw1 hw1'
  go_enter Tryz.func49, Tryz.ntmps49
  go_wp2_with fail
  rw [HW1.out]
  clear HW1
  refine (C1.out w1 D.out.now.2.2).mono ?_
  rintro e w2 ⟨a2, c2, rfl, hwf2, hA2, hb2⟩
  have hs2 := hb2.size
  obtain ⟨w3, hw3⟩ : ∃ w3, w2.alloc (tmCells (appT s x.l).head a2 (appT s x.l).args.length c2) = w3 := ⟨_, rfl⟩
  have hb3 : Below w2.heap.size w2 w3 := by rw [← hw3]; exact (Below.refl _ _).alloc (Nat.le_refl _) _
  have hs3 := hb3.size
  have d3 := (D.out.mv hb2).push (Below.refl _ _) (appT s x.l).head a2 (appT s x.l).args.length c2
  rw [hw3] at d3
  have D3 := Lib.hid d3
  have KA := Lib.hid ((kne_of (b0 := w.heap.size + 1) hA2 (by omega) (by omega)).mv hb3)
  have HWF2 := Lib.hid hwf2
  clear d3 hb2 hb3 hA2 hwf2 D C1
  by_cases h1 : appE s x.l = 0
  case neg =>
    obtain ⟨k, hk⟩ : ∃ k, appE s x.l = k := ⟨_, rfl⟩
    have HE := Lib.hid (ap_bad (s := s) (x := x) (k := k) (by unfold apK; rw [if_neg h1]; exact hk) (by rw [← hk]; exact h1))
    have HQ := Lib.hid D3.out.now.2.2.2
    have hz := D3.out.now.2.1
    obtain ⟨z0, z1, z2, z3, z4⟩ := hz.lc
    obtain ⟨q0, q1, q2, q3, q4⟩ := hz.lf
    simp only [LV.zero, T.head, T.args, List.length_nil] at z0 z1 z2 z3 z4
    clear hz
    rw [hk] at h1 ⊢
    have h2 : (k != 0) = true := by simpa using h1
    clear h1 hk D3 KA
    go_wp2
    refine bodyPost_ret (v := .tuple #[LV.zero.v, .int .i64 k]) (by simp [results, Tryz.results49, go_sem, z0, z1, z2, z3, z4, LV.zero, T.head, T.args]) rfl ?_
    exact ⟨LV.zero, by rw [HE.out.2.2.2], HE.out.1.symm, HE.out.2.1.symm, HE.out.2.2.1.symm, lv_zero _ _, bl_sets HQ.out (by omega) _ _ _ _ _⟩
  have H1 := Lib.hid h1
  rw [h1]
  clear h1
  obtain ⟨x0, x1, x2, x3, x4⟩ := D3.out.now.2.2.1.lc
  go_wp2_with fail
  clear x0 x1 x2 x3 x4
  refine (C2.out w3 D3.out.now.2.2.2).mono ?_
  rintro e w4 ⟨a4, c4, rfl, hwf4, hA4, hb4⟩
  have hs4 := hb4.size
  obtain ⟨w5, hw5⟩ : ∃ w5, w4.alloc (tmCells (appT s x.r).head a4 (appT s x.r).args.length c4) = w5 := ⟨_, rfl⟩
  have hb5 : Below w4.heap.size w4 w5 := by rw [← hw5]; exact (Below.refl _ _).alloc (Nat.le_refl _) _
  have hs5 := hb5.size
  have d5 := (D3.out.mv hb4).push (Below.refl _ _) (appT s x.r).head a4 (appT s x.r).args.length c4
  rw [hw5] at d5
  have D5 := Lib.hid d5
  have KB := Lib.hid ((kne_of (b0 := w.heap.size + 1) hA4 (by omega) (by omega)).mv hb5)
  have KA5 := Lib.hid ((KA.out.mv hb4).mv hb5)
  have HWF4 := Lib.hid hwf4
  clear d5 hb4 hb5 hA4 hwf4 D3 C2 KA hw3
  have hz := D5.out.now.2.2.1
  have hxx := D5.out.now.2.2.2.1
  obtain ⟨z0, z1, z2, z3, z4⟩ := hz.lc
  obtain ⟨q0, q1, q2, q3, q4⟩ := hz.lf
  simp only [LV.zero, T.head, T.args, List.length_nil] at z0 z1 z2 z3 z4
  have HQ := Lib.hid D5.out.now.2.2.2.2
  by_cases h2 : appE s x.r = 0
  case neg =>
    obtain ⟨k, hk⟩ : ∃ k, appE s x.r = k := ⟨_, rfl⟩
    have HE := Lib.hid (ap_bad (s := s) (x := x) (k := k) (by unfold apK; rw [if_pos H1.out]; exact hk) (by rw [← hk]; exact h2))
    clear hz hxx
    rw [hk] at h2 ⊢
    have h3 : (k != 0) = true := by simpa using h2
    clear h2 hk D5 KB KA5
    go_wp2
    refine bodyPost_ret (v := .tuple #[LV.zero.v, .int .i64 k]) (by simp [results, Tryz.results49, go_sem, z0, z1, z2, z3, z4, LV.zero, T.head, T.args]) rfl ?_
    exact ⟨LV.zero, by rw [HE.out.2.2.2], HE.out.1.symm, HE.out.2.1.symm, HE.out.2.2.1.symm, lv_zero _ _, bl_sets HQ.out (by omega) _ _ _ _ _⟩
  have HE := Lib.hid (ap_ok (s := s) (x := x) (by unfold apK; rw [if_pos H1.out]; exact h2))
  rw [h2]
  clear h2
  obtain ⟨x0, _, _, _, _⟩ := hxx.lc
  obtain ⟨⟨u0, u1⟩, ⟨v0, v1⟩, _⟩ := D5.out.now
  clear hz hxx D5
  generalize appT s x.l = y1 at HE HWF2 KA5 v0 v1 ⊢
  generalize appT s x.r = y2 at HE HWF4 KB u0 u1 hw5 ⊢
  go_wp2
  refine bodyPost_ret (v := .tuple #[(LV.mk x.n y1 y2 a2 c2 a4 c4).v, .int .i64 0]) (by simp [results, Tryz.results49, go_sem, z0, z1, z2, z3, z4]) rfl ?_
  exact ⟨LV.mk x.n y1 y2 a2 c2 a4 c4, by rw [HE.out.2.2.2], HE.out.1.symm, HE.out.2.1.symm, HE.out.2.2.1.symm, ⟨HWF2.out, HWF4.out, KA5.out.sets _ _ _ _ _, KB.out.sets _ _ _ _ _⟩, bl_sets HQ.out (by omega) _ _ _ _ _⟩
end Go.Proofs.YtpncmdlbmnmahaaGreat

/- Kit for walks of examples whose regions draw their order: cells, boxes and worlds carried through allocations, draws and calls. -/
namespace Go.Proofs.YtpncmdlbmnmahaaGreat
set_option linter.unusedVariables false
set_option linter.unusedSimpArgs false
open Go.RowKit
theorem funk_any (h : Int) (a : Option Addr) (k c : Nat) (w : World) : Calls Tryz.prog 32 #[.int .i64 h, .slice a k c] w fun e u =>
    e = .returned (tm h a k c) ∧ (∀ b o, b < w.heap.size → u.cell? ⟨b, o, none⟩ = w.cell? ⟨b, o, none⟩) ∧ (∀ b o, b < w.heap.size → u.frozen? ⟨b, o, none⟩ = w.frozen? ⟨b, o, none⟩) ∧ w.heap.size ≤ u.heap.size ∧ Hid (Below w.heap.size w u) :=
  (fun_any h a k c w).mono fun e u ⟨he, hb⟩ => ⟨he, fun b o hbo => hb.cell (p := ⟨b, o, none⟩) hbo, fun b o hbo => hb.frozen (p := ⟨b, o, none⟩) hbo, hb.size, Lib.hid hb⟩
theorem Cs.new' {W : World} {b : Nat} {cs : List Value} {ty : TypeId} (h : W.heap.size = b) : Cs b cs (W.alloc (.cells cs.toArray ty)) := by
  subst h; exact (later_cs W cs.toArray ty).now
theorem Cs.bl {W X : World} {b : Nat} {cs : List Value} (h : Cs b cs W) (hb : Below W.heap.size W X) : Cs b cs X :=
  ⟨Nat.lt_of_lt_of_le h.1 hb.size, fun i u hu => (hb.cell (p := ⟨b, i, none⟩) h.1).trans (h.2 i u hu)⟩
theorem Cs.al {W : World} {b : Nat} {cs : List Value} (h : Cs b cs W) (ob : Obj) : Cs b cs (W.alloc ob) := h.bl ((Below.refl _ _).alloc (Nat.le_refl _) _)
theorem Cs.dr {W : World} {b : Nat} {cs : List Value} (h : Cs b cs W) : Cs b cs W.drew := h
theorem Cs.set {W : World} {b b' o : Nat} {cs : List Value} {u : Value} (h : Cs b cs W) (hne : b ≠ b') : Cs b cs (W.setCell ⟨b', o, none⟩ u) :=
  ⟨by simpa using h.1, fun i v hv => by rw [World.cell?_setCell_other _ _ _ _ (by intro e; injection e with e1 _ _; exact hne e1.symm)]; exact h.2 i v hv⟩
theorem csHave {P : Prop} {W X : World} {b : Nat} {cs : List Value} (h : Cs b cs W) (hb : Below W.heap.size W X) (k : Hid (Cs b cs X) → P) : P := k (Lib.hid (h.bl hb))
theorem blAl {A W : World} (h : Below A.heap.size A W) (ob : Obj) : Below A.heap.size A (W.alloc ob) := h.alloc h.size ob
theorem blDr {A W : World} (h : Below A.heap.size A W) : Below A.heap.size A W.drew := ⟨h.os, h.tape, h.output, h.size, h.block⟩
theorem blHave {P : Prop} {A W X : World} (h : Below A.heap.size A W) (hb : Below W.heap.size W X) (k : Hid (Below A.heap.size A X) → P) : P := k (Lib.hid (h.trans (hb.mono h.size)))
end Go.Proofs.YtpncmdlbmnmahaaGreat

/- Small contracts for examples: a variable, a literal turned, the signature of $true, a and f. -/
namespace Go.Proofs.YtpncmdlbmnmahaaGreat
set_option linter.unusedVariables false
set_option linter.unusedSimpArgs false
open Go.RowKit
def g9 : Sg := [sy0, ⟨⟨#[97]⟩, 0, 1, false⟩, ⟨⟨#[102]⟩, 1, 1, false⟩]
def cells9 : List Value := [.string ⟨#[36, 116, 114, 117, 101]⟩, .int .i64 0, .int .i64 1, .bool true, .string ⟨#[97]⟩, .int .i64 0, .int .i64 1, .bool false, .string ⟨#[102]⟩, .int .i64 1, .int .i64 1, .bool false]
theorem g9_mem {b : Nat} {X : World} (h : Cs b cells9 X) : IsSg X.heap.size X g9 (some ⟨b, 0, none⟩) 3 := by
  obtain ⟨h1, h2⟩ := h
  refine ⟨by simp [g9], by simp [maxLen], .inr ⟨b, 0, rfl, h1, fun j x hx => ?_⟩⟩
  match j, hx with
  | 0, hx => simp [g9] at hx; subst hx; exact ⟨⟨by decide, by decide, by decide⟩, h2 0 _ rfl, h2 1 _ rfl, h2 2 _ rfl, h2 3 _ rfl⟩
  | 1, hx => simp [g9] at hx; subst hx; exact ⟨⟨by decide, by decide, by decide⟩, h2 4 _ rfl, h2 5 _ rfl, h2 6 _ rfl, h2 7 _ rfl⟩
  | 2, hx => simp [g9] at hx; subst hx; exact ⟨⟨by decide, by decide, by decide⟩, h2 8 _ rfl, h2 9 _ rfl, h2 10 _ rfl, h2 11 _ rfl⟩
  | j + 3, hx => simp [g9] at hx
def F9 : T := .node 2 [.node (-1) []]
def A9 : T := .node 1 []
theorem args9 {br : Nat} {X : World} (h : Cs br [.int .i64 (-1), .slice none 0 0] X) : IsArgs X.heap.size X F9.args (some ⟨br, 0, none⟩) 1 := by
  obtain ⟨h1, h2⟩ := h
  exact ⟨by simp [F9, T.args], by simp [maxLen], .inr ⟨br, 0, rfl, h1, ⟨by decide, h2 0 _ rfl, _, _, h2 1 _ rfl, by simp, by simp [maxLen], .inl rfl⟩, trivial⟩⟩
theorem argsA9 (X : World) : IsArgs X.heap.size X A9.args none 0 := ⟨by simp [A9, T.args], by simp [maxLen], .inl rfl⟩
end Go.Proofs.YtpncmdlbmnmahaaGreat

/- Contract of the document's Compare and Orient of literals. -/
namespace Go.Proofs.YtpncmdlbmnmahaaGreat
set_option linter.unusedVariables false
set_option linter.unusedSimpArgs false
open Go.RowKit
theorem lc_all {g : Sg} {x y : LV} (h : errL g x.l x.r = 0) (h2 : errL g y.l y.r = 0) : lcR g x y = rowsT g (rowL x.n x.l x.r) (rowL y.n y.l y.r) ∧ lcE g x y = 0 := ⟨by unfold lcR; rw [if_pos h, if_pos h2], by unfold lcE; rw [if_pos h, h2]⟩
end Go.Proofs.YtpncmdlbmnmahaaGreat

/- Contract of weigh's heads: how often each head stands in a term. -/
namespace Go.Proofs.YtpncmdlbmnmahaaGreat
set_option linter.unusedVariables false
set_option linter.unusedSimpArgs false
open Go.RowKit Go.Maps
def HeadsPost (t : T) (w : World) (e : Ending) (w' : World) : Prop := ∃ M, e = .returned (.map (some M)) ∧ w.heap.size ≤ M ∧ CntM w' M t.hds ∧ Below w.heap.size w w'
def HdOut (n₀ : Nat) (w : World) (t : T) (gk : Nat) (st : Value) (wr : World) : Prop :=
  ∃ S L, HdC n₀ w (w.heap.size + 1) (w.heap.size + 2) (w.heap.size + 3) st S L wr ∧ hsum S = gk ∧ (L ++ hall S).Perm t.hds
def HdIn (n₀ : Nat) (w : World) (t : T) (ts : List T) (gk : Nat) (st i : Value) (wr : World) : Prop :=
  ∃ k S L, k ≤ ts.length ∧ i = .int .i64 (k : Nat) ∧ HdC n₀ w (w.heap.size + 1) (w.heap.size + 2) (w.heap.size + 3) st S L wr ∧ hsum S + T.sizes (ts.drop k) + k ≤ gk ∧ (L ++ hall S ++ T.hdsL (ts.drop k)).Perm t.hds
set_option maxRecDepth 100000 in
set_option maxHeartbeats 4000000 in
theorem heads_any (t : T) (ht : t.size ≤ 1000000000000) (n₀ : Nat) (a : Option Addr) (c : Nat) (w : World) (hn : n₀ ≤ w.heap.size) (hwf : (Lit.int .i64 t.head).wf = true) (hA : IsArgs n₀ w t.args a c) :
    Calls Tryz.prog 120 #[tm t.head a t.args.length c] w (HeadsPost t w) := by
  have HWF := Lib.hid hwf
  have HA := Lib.hid hA
  clear hwf hA
  obtain ⟨i0, hi, hz0, hz1, hz2⟩ := info_parts infoTs
  have hmm := @run_makeMap Tryz.prog
  go_enter Tryz.func120, Tryz.ntmps120
  go_wp2
  have hst : HdOut n₀ w t (T.sizes [t]) (.slice (some ⟨w.heap.size + 1 + 1 + 1, 0, none⟩) 1 1) ((((w.alloc (tmCells t.head a t.args.length c)).alloc (.map #[] 0)).alloc (tmCells t.head a t.args.length c)).alloc (.cells #[.slice (some ⟨w.heap.size + 1 + 1, 0, none⟩) 1 1] 40)) := by
    obtain ⟨w1, hw1⟩ : ∃ w1, w.alloc (tmCells t.head a t.args.length c) = w1 := ⟨_, rfl⟩
    have hs1 : w1.heap.size = w.heap.size + 1 := by rw [← hw1]; simp
    have hB1 : Below w.heap.size w w1 := by rw [← hw1]; exact (Below.refl _ w).alloc (Nat.le_refl _) _
    rw [hw1]
    obtain ⟨w2, hw2⟩ : ∃ w2, w1.alloc (.map #[] 0) = w2 := ⟨_, rfl⟩
    have hm2 : CntM w2 (w.heap.size + 1) [] := by rw [← hw2, ← hs1]; exact CntM.made w1
    have hs2 : w2.heap.size = w.heap.size + 2 := by rw [← hw2]; simp; omega
    have hB2 : Below w.heap.size w w2 := by rw [← hw2]; exact hB1.alloc (by omega) _
    rw [hw2]
    obtain ⟨w3, hw3⟩ : ∃ w3, w2.alloc (tmCells t.head a t.args.length c) = w3 := ⟨_, rfl⟩
    have hb3 : w3.heap[w.heap.size + 2]? = some (tmCells t.head a t.args.length c) := by rw [← hw3, ← hs2]; exact heap_alloc_new w2 _
    have hs3 : w3.heap.size = w.heap.size + 3 := by rw [← hw3]; simp; omega
    have hB3 : Below w.heap.size w w3 := by rw [← hw3]; exact hB2.alloc (by omega) _
    have hm3 : CntM w3 (w.heap.size + 1) [] := hm2.kept (by rw [← hw3]; exact Below.heap_alloc _ _ _ (by omega))
    rw [hw3]
    obtain ⟨w4, hw4⟩ : ∃ w4, w3.alloc (.cells #[.slice (some ⟨w.heap.size + 1 + 1, 0, none⟩) 1 1] 40) = w4 := ⟨_, rfl⟩
    have hb4 : w4.heap[w.heap.size + 2]? = some (tmCells t.head a t.args.length c) := by rw [← hw4]; exact (Below.heap_alloc _ _ _ (by omega)).trans hb3
    have hc4 : w4.heap[w.heap.size + 3]? = some (.cells #[.slice (some ⟨w.heap.size + 1 + 1, 0, none⟩) 1 1] 40 (0, 0)) := by rw [← hw4, ← hs3]; exact heap_alloc_new w3 _
    have hs4 : w4.heap.size = w.heap.size + 4 := by rw [← hw4]; simp; omega
    have hB4 : Below w.heap.size w w4 := by rw [← hw4]; exact hB3.alloc (by omega) _
    have hm4 : CntM w4 (w.heap.size + 1) [] := hm3.kept (by rw [← hw4]; exact Below.heap_alloc _ _ _ (by omega))
    rw [hw4]
    have hrow : IsRowp (fun b => b < n₀ ∨ b = w.heap.size + 2) w4 [t] (w.heap.size + 2) 0 := by
      simp only [IsRowp, and_true]
      exact isTp_iff.2 ⟨HWF.out, by simp [World.cell?, hb4], a, c, by simp [World.cell?, hb4], (isArgsp_lt.2 (HA.out.below (hB4.mono hn))).mono (fun b hb => .inl hb)⟩
    refine ⟨[([t], some ⟨w.heap.size + 2, 0, none⟩, 1)], [], ⟨?_, ?_, hm4, hB4, by omega, by omega⟩, by simp [hsum], by simp [hall, T.hdsL]⟩
    · exact ⟨by simp [hvals], .inr ⟨w.heap.size + 3, 1, _, rfl, Nat.le_refl _, hc4, Nat.le_refl _, by simp [maxLen], rfl, rfl⟩⟩
    · intro e he
      simp at he
      subst he
      exact ⟨⟨Nat.le_refl _, by simp [maxLen], .inr ⟨w.heap.size + 2, 0, rfl, .inr rfl, hrow⟩⟩, by simp⟩
  have HST := Lib.hid hst
  generalize (((w.alloc (tmCells t.head a t.args.length c)).alloc (.map #[] 0)).alloc (tmCells t.head a t.args.length c)).alloc (.cells #[.slice (some ⟨w.heap.size + 1 + 1, 0, none⟩) 1 1] 40) = w4 at *
  clear hst
  go_loopg [4] (T.sizes [t]) (fun gk st wr => HdOut n₀ w t gk st wr)
  case atStart => exact HST.out
  case round =>
    clear HST
    obtain ⟨S, L, hS, hgk, hp⟩ := hrel
    have HP := Lib.hid hp
    have HGK := Lib.hid hgk
    clear hgk hp
    rcases List.eq_nil_or_concat S with rfl | ⟨S0, ⟨ts, a', c'⟩, rfl⟩
    · obtain ⟨a3, c3, rfl⟩ := hS.nilStack
      have HS := Lib.hid hS
      clear hS
      go_wp2
      go_ret
      exact ⟨_, rfl, by omega, HS.out.map.perm (by simpa [hall] using HP.out), HS.out.below⟩
    · simp only [List.concat_eq_append] at hS
      have hpp := HP.out
      simp only [List.concat_eq_append, hall_snoc, ← List.append_assoc] at hpp
      have hgg := HGK.out
      simp only [List.concat_eq_append, hsum_snoc] at hgg
      obtain ⟨hE, hne⟩ := hS.ents (ts, a', c') (by simp)
      dsimp only at hE hne hpp hgg
      obtain ⟨gs, cap, rfl, hcap, hcm, hcell, hC⟩ := hS.stack
      have hin : HdIn n₀ w t ts gk (.slice (some ⟨gs, 0, none⟩) S0.length cap) (.int .i64 ((0 : Nat) : Int)) wr := ⟨0, S0, L, Nat.zero_le _, rfl, hC, by simp; omega, by simpa using hpp⟩
      have hpl := hpp.length_eq
      simp only [List.length_append, T.hds_length, T.hdsL_length] at hpl
      have HIN := Lib.hid hin
      have hlt : 0 < ts.length := List.length_pos_iff.2 hne
      have hlm : ts.length ≤ 1000000000000 := by have h1 := T.sizes_ge_length ts; omega
      have hs0 : S0.length ≤ 1000000000000 := by
        have h1 := hC.len
        have h2 := hall_length S0
        omega
      have hcc : c' ≤ maxLen := hE.2.1
      have hlc : ts.length ≤ c' := hE.1
      have HE := Lib.hid (fun (W : World) (hW : ∀ b, (b < n₀ ∨ b = w.heap.size + 2) → W.heap[b]? = wr.heap[b]?) => hE.keep hW (fun _ x => x))
      unfold maxLen at hcm hcc
      clear hin hS hE hC hpp hpl
      go_wp2
      go_loopw [4, 28] (fun st i wq => HdIn n₀ w t ts gk st i wq ∧ ∀ b, (b < n₀ ∨ b = w.heap.size + 2) → wq.heap[b]? = wr.heap[b]?) (fun _ i _ => ts.length - (intOf i).toNat)
      case atStart => exact ⟨HIN.out, fun _ _ => rfl⟩
      case round =>
        clear HIN hcell
        obtain ⟨⟨k, S, L, hk, rfl, hC, hM, hP⟩, hkp⟩ := hrel
        have hpl := hP.length_eq
        simp only [List.length_append, T.hds_length, T.hdsL_length, hall_length] at hpl
        have hEr := HE.out wr hkp
        by_cases hlk : k < ts.length
        · obtain ⟨b, o, s, a1, c1, rfl, hbk, hs, hswf, hc0, hc1, hA'⟩ := hEr.elem hlk
          have hsd := T.sizes_drop hs
          have hsq := T.size_eq s
          have hsl2 := T.sizes_ge_length s.args
          have hsa : s.args.length ≤ 1000000000000 := by omega
          have hSl : S.length + 1 ≤ 1000000000000 := by have := hC.len; omega
          have hhd := T.hdsL_drop hs
          have hP2 : (s.head :: L ++ (hall S ++ T.hdsL s.args) ++ T.hdsL (ts.drop (k + 1))).Perm t.hds := by
            refine List.Perm.trans ?_ hP
            rw [hhd, T.hds_eq]
            simp only [List.cons_append, List.append_assoc]
            rw [show L ++ (hall S ++ s.head :: (T.hdsL s.args ++ T.hdsL (ts.drop (k + 1)))) = (L ++ hall S) ++ s.head :: (T.hdsL s.args ++ T.hdsL (ts.drop (k + 1))) from by simp]
            refine List.Perm.trans ?_ (List.perm_middle).symm
            simp
          have hbw : b < wr.heap.size := World.block_lt_of_cell? wr ⟨b, _, none⟩ hc0
          obtain ⟨W1, hW1⟩ : ∃ W1, wr.alloc (.cells #[.int .i64 s.head, .slice a1 s.args.length c1] 42) = W1 := ⟨_, rfl⟩
          have hBl : Below wr.heap.size wr W1 := by rw [← hW1]; exact (Below.refl _ wr).alloc (Nat.le_refl _) _
          have hC1 := hC.later hn hBl
          have hs1 : W1.heap.size = wr.heap.size + 1 := by rw [← hW1]; simp
          have hws := hC.below.size
          have hbM : w.heap.size + 1 < wr.heap.size := hC.map.lt
          have hd0 : W1.cell? ⟨wr.heap.size, 0, none⟩ = some (.int .i64 s.head) := by rw [← hW1]; simp [go_sem]
          have hd1 : W1.cell? ⟨wr.heap.size, 1, none⟩ = some (.slice a1 s.args.length c1) := by rw [← hW1]; simp [go_sem]
          have hlook := hC1.map.look (hwf_of hswf)
          obtain ⟨w5, hput, hm5, hg5⟩ := hC1.map.put (hwf_of hswf) (by omega)
          have hcl : L.count s.head ≤ L.length := List.count_le_length
          have hC5 := hC1.put hn (by omega) (by omega) (by omega) hm5 hg5
          have hd0' : w5.cell? ⟨wr.heap.size, 0, none⟩ = some (.int .i64 s.head) := (World.cell?_of_block (a := ⟨wr.heap.size, 0, none⟩) (hg5.block wr.heap.size (by omega) (by simp; omega))).trans hd0
          have hd1' : w5.cell? ⟨wr.heap.size, 1, none⟩ = some (.slice a1 s.args.length c1) := (World.cell?_of_block (a := ⟨wr.heap.size, 1, none⟩) (hg5.block wr.heap.size (by omega) (by simp; omega))).trans hd1
          have hok5 : ∀ b, (b < n₀ ∨ b = w.heap.size + 2) → w5.heap[b]? = wr.heap[b]? := fun q hq =>
            (hg5.block q (by have := hC.lt.1; rcases hq with hq | rfl <;> omega) (by simp; omega)).trans (hBl.block q (by have := hC.lt.1; rcases hq with hq | rfl <;> omega))
          have hA5 : IsArgsp (fun b => b < n₀ ∨ b = w.heap.size + 2) w5 s.args a1 c1 := hA'.keep hok5 (fun _ x => x)
          have hq : L.count s.head ≤ 1000000000000 := by omega
          generalize L.count s.head = q at hlook hput hq
          have HC5 := Lib.hid hC5
          have HA5 := Lib.hid hA5
          have HP2 := Lib.hid hP2
          have HOK5 := Lib.hid (fun b hb => (hok5 b hb).trans (hkp b hb))
          have HM := Lib.hid hM
          have HSD := Lib.hid hsd
          have HSQ := Lib.hid hsq
          clear hC hM hP hkp hpl hEr hswf hA' hhd hP2 hBl hC1 hm5 hg5 hcl hC5 hok5 hA5 hsd hsq hsl2 hs hs1
          by_cases hnil : s.args.length = 0
          · have hnil2 : s.args = [] := List.eq_nil_of_length_eq_zero hnil
            have HNL := Lib.hid hnil2
            clear hnil2
            have hz : ¬ 0 < s.args.length := by omega
            clear hnil
            go_wp2
            go_roundw
            case rel =>
              refine ⟨⟨k + 1, S, s.head :: L, by omega, by go_num, HC5.out, ?_, ?_⟩, HOK5.out⟩
              · have := HM.out; have h2 := HSD.out; have h3 := HSQ.out; omega
              · have := HP2.out
                rw [HNL.out] at this
                simpa [T.hdsL] using this
            case measure => simp [intOf]; omega
          · have hz : 0 < s.args.length := by omega
            have HNL := Lib.hid (show s.args ≠ [] from fun e => hnil (by rw [e]; rfl))
            clear hnil
            go_wp2_with (at_builtin; refine stopHere ?_)
            refine Lib.hid ?_
            refine wpList_append_own _ rfl _ _ 156 rfl (w.heap.size + 3) 40 i0 (.slice none 0 0) 1 24 Tryz.underlying156 hi hz0 hz1 hz2 rfl (by decide) u4 S.length (hvals S) rfl (HC5.out.own.alloc _) ⟨w5.heap.size, 0, none⟩ 1 1 [.slice a1 s.args.length c1] rfl rfl (cell_one_at _ _ _ _ (by simp)) (by simp [Value.oneCell']) (by unfold maxLen; omega) (by omega) (by have := HC5.out.lt.2; simp; omega) ?_
            intro v' w7 hown hgr _
            have HO7 := Lib.hid hown
            have HG7 := Lib.hid hgr
            have HOK7 := Lib.hid (show ∀ b, (b < n₀ ∨ b = w.heap.size + 2) → w7.heap[b]? = w5.heap[b]? from fun q hq => by
              have h1 := HC5.out.lt.1
              have h2 := HC5.out.below.size
              have h3 : q < w5.heap.size := by rcases hq with hq | hq <;> omega
              exact (hgr.block q (by simp; omega) (fun e => by have := own_ge HC5.out.own e.symm; rcases hq with hq | hq <;> omega)).trans (Below.heap_alloc _ _ _ h3))
            clear hown hgr
            go_wp2
            go_roundw
            case rel =>
              refine ⟨⟨k + 1, S ++ [(s.args, a1, c1)], s.head :: L, by omega, by go_num, HC5.out.push hn (by omega) (by omega) (by omega) (by omega) HA5.out HNL.out HO7.out HG7.out, ?_, ?_⟩, fun b hb => (HOK7.out b hb).trans (HOK5.out b hb)⟩
              · rw [hsum_snoc]; have := HM.out; have h2 := HSD.out; have h3 := HSQ.out; dsimp only; omega
              · rw [hall_snoc, ← List.append_assoc]
                have := HP2.out
                simpa [← List.append_assoc] using this
            case measure => simp [intOf]; omega
        · obtain rfl : k = ts.length := by omega
          have HC := Lib.hid hC
          have HP3 := Lib.hid hP
          have HM := Lib.hid hM
          clear hC hP hM hkp hEr hpl
          go_wp2
          go_roundg (hsum S)
          case measure => have := HM.out; omega
          case rel => exact ⟨S, L, HC.out, rfl, by simpa [T.hdsL] using HP3.out⟩
end Go.Proofs.YtpncmdlbmnmahaaGreat
