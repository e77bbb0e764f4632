/- Contracts of the reference's Right and Check of substitutions. -/
import Derived.Test.YtbljkiodgjgnaaaRSm
import Derived.Test.YtbljkiodgjgnaaaRCk
import Derived.Test.YtbljkiodgjgnaaaSOf
import Derived.Lib.QuietBelow
import Derived.Deep.CutRange
namespace Go.Proofs.Ytbljkiodgjgnaaa
set_option linter.unusedVariables false
set_option linter.unusedSimpArgs false
open Go.RowKit Go.Sort

def RtI (s : Sb) (w : World) (i : Value) (wr : World) : Prop := ∃ (k : Nat) (z : Int), k ≤ s.length ∧ i = .int .i64 k ∧ ((k = 0 ∧ z = 0) ∨ ∃ y u, 0 < k ∧ s[k - 1]? = some (y, u) ∧ z = y + 1 ∧ 0 ≤ y ∧ y ≤ 255) ∧ rightS 0 s = rightS z (s.drop k) ∧ Below w.heap.size w wr

set_option maxRecDepth 100000 in
set_option maxHeartbeats 40000000 in
theorem refRightS_any (s : Sb) (hsz : ∀ x ∈ s, x.2.size ≤ 1000000000000) (n₀ : Nat) (a : Option Addr) (c : Nat) (w : World) (hn : n₀ ≤ w.heap.size) (hS : IsBs n₀ w s a c) :
    Calls Try.prog 65 #[.slice a s.length c] w fun e w' => e = .returned (.bool (rightS 0 s)) ∧ Below w.heap.size w w' := by
  have hl : s.length ≤ c ∧ c ≤ maxLen := ⟨hS.1, hS.2.1⟩
  unfold maxLen at hl
  obtain ⟨hl1, hl2⟩ := hl
  have HS := Lib.hid hS
  have HZ := Lib.hid hsz
  clear hS hsz
  go_enter Try.func65, Try.ntmps65
  go_wp2
  go_loopw [3] (fun i wr => RtI s w i wr) (fun i _ => s.length - (intOf i).toNat)
  case atStart => exact ⟨0, 0, Nat.zero_le _, rfl, .inl ⟨rfl, rfl⟩, rfl, Below.refl _ _⟩
  case round =>
    obtain ⟨k, z, hk, rfl, hpr, hrt, hB⟩ := hrel
    have HR := Lib.hid hrt
    have HB := Lib.hid hB
    have hbz := hB.size
    clear hrt hB
    by_cases hlt : k < s.length
    · obtain ⟨b, o, x, t, a', c', rfl, hbn, hsk, hxw, htw, hc0, hc1, hc2, hA'⟩ := (HS.out.below (HB.out.mono hn)).elem (i := k) hlt
      have hk0 : (0 : Int) ≤ (k : Int) := Int.natCast_nonneg _
      have hk1 : (k : Int) < (s.length : Int) := by omega
      have HSK := Lib.hid hsk
      have HST := Lib.hid (rightS_step (l := z) hsk)
      have hts : t.size ≤ 1000000000000 := HZ.out (x, t) (List.mem_of_getElem? hsk)
      obtain ⟨hx1, hx2⟩ := wf_low hxw
      have hbw : b < wr.heap.size := by omega
      have hnw : n₀ ≤ wr.heap.size := by omega
      have C1 : Hid (∀ W, Below wr.heap.size wr W → Calls Try.prog 66 #[tm t.head a' t.args.length c'] W fun e w' => e = .returned (.bool (decide (t.check = 0))) ∧ Below W.heap.size W w') := Lib.hid (fun W hW => refRight_any t hts n₀ a' c' W (Nat.le_trans hnw hW.size) (hA'.below (hW.mono hnw)))
      have hz0 : 0 ≤ z ∧ z ≤ 256 := by rcases hpr with ⟨_, h⟩ | ⟨y, u, _, _, h, h2, h3⟩ <;> omega
      clear hsk htw hxw hA' hts
      obtain ⟨tst, htst⟩ : ∃ tst : Bool, tst = (decide (z ≤ x) && decide (x ≤ 255) && decide (t.check = 0) && decide (t.head ≠ -1 - x)) := ⟨_, rfl⟩
      have HTST := Lib.hid htst
      have hprev : ∀ y u, s[k - 1]? = some (y, u) → 0 < k → wr.cell? ⟨b, o + (k - 1) * 3, none⟩ = some (.int .i64 y) := fun y u hp hk0 => by
        obtain ⟨b2, o2, y2, u2, _, _, e1, _, e2, _, _, e3, _⟩ := (HS.out.below (HB.out.mono hn)).elem (i := k - 1) (by omega)
        cases e1
        rw [hp] at e2
        cases e2
        exact e3
      have HPR := Lib.hid hprev
      clear HS HZ hprev
      go_wp2
      go_cut [65] from 10 to 65 (fun v65 wx => v65 = .bool (!tst) ∧ Below wr.heap.size wr wx)
      case first =>
        clear HSK HST HR HB
        have f0 := fun d os => cell_regrown hc0 d os
        have f1 := fun d os => cell_regrown hc1 d os
        have f2 := fun d os => cell_regrown hc2 d os
        refine wp_region_wq (by kernel_rfl) (by kernel_rfl) ?_
        by_cases q1 : x < 0
        · clear HPR HTST
          repeat (first
            | (refine WQ.skip (by rfl) ?_; simp only [Act.put, List.setIfInBounds_toArray, List.set_cons_succ, List.set_cons_zero])
            | (apply WQ.two (by rfl); (intro w' hw'; obtain ⟨pq, rfl⟩ := hw'; go_simp; first | (with_reducible exact Calls.regrown_of (C1.out _ (below_regrown _ _ _))) | exact rfl); simp only [Act.put, List.setIfInBounds_toArray, List.set_cons_succ, List.set_cons_zero]))
          refine WQ.nil ?_
          intro _ hw'
          obtain ⟨⟨dq, osq⟩, hw''⟩ := hw'
          subst hw''
          go_wp2
          go_meet
          exact ⟨by rw [htst]; rw [decide_eq_false (show ¬ z ≤ x from by omega)]; simp, below_regrown wr dq osq⟩
        by_cases q2 : 255 < x
        · clear HPR HTST
          repeat (first
            | (refine WQ.skip (by rfl) ?_; simp only [Act.put, List.setIfInBounds_toArray, List.set_cons_succ, List.set_cons_zero])
            | (apply WQ.two (by rfl); (intro w' hw'; obtain ⟨pq, rfl⟩ := hw'; go_simp; first | (with_reducible exact Calls.regrown_of (C1.out _ (below_regrown _ _ _))) | exact rfl); simp only [Act.put, List.setIfInBounds_toArray, List.set_cons_succ, List.set_cons_zero]))
          refine WQ.nil ?_
          intro _ hw'
          obtain ⟨⟨dq, osq⟩, hw''⟩ := hw'
          subst hw''
          go_wp2
          go_meet
          exact ⟨by rw [htst]; rw [decide_eq_false (show ¬ x ≤ 255 from by omega)]; simp, below_regrown wr dq osq⟩
        rcases hpr with ⟨rfl, rfl⟩ | ⟨y, u, hkp, hprev, rfl, hy0, hy1⟩
        · clear HPR HTST f0 f1 f2
          simp only [Nat.zero_mul, Nat.add_zero] at hc0 hc1 hc2
          have hk2 : (0 : Int) < (s.length : Int) := by simpa using hk1
          have hk3 : 0 < s.length := hlt
          have hwx := IntWalk.i64_in (-1 - x) ⟨by omega, by omega⟩
          have f0 := fun d os => cell_regrown hc0 d os
          have f1 := fun d os => cell_regrown hc1 d os
          have f2 := fun d os => cell_regrown hc2 d os
          by_cases q4 : t.check = 0
          · rw [decide_eq_true q4] at C1
            by_cases q5 : t.head = -1 - x
            · have q5b : (t.head == -1 - x) = true := by simpa using q5
              have Q5 := Lib.hid q5
              clear q5
              repeat (first
                | (refine WQ.skip (by rfl) ?_; simp only [Act.put, List.setIfInBounds_toArray, List.set_cons_succ, List.set_cons_zero])
                | (apply WQ.two (by rfl); (intro w' hw'; obtain ⟨pq, rfl⟩ := hw'; go_simp; first | (with_reducible exact Calls.regrown_of (C1.out _ (below_regrown _ _ _))) | exact rfl); simp only [Act.put, List.setIfInBounds_toArray, List.set_cons_succ, List.set_cons_zero]))
              refine WQ.nil ?_
              intro _ hw'
              obtain ⟨⟨dq, osq⟩, hw''⟩ := hw'
              subst hw''
              go_wp2
              go_meet
              exact ⟨by rw [htst]; rw [decide_eq_false (show ¬ t.head ≠ -1 - x from fun h => h Q5.out)]; simp, below_regrown wr dq osq⟩
            · have q5b : (t.head == -1 - x) = false := by simpa using q5
              repeat (first
                | (refine WQ.skip (by rfl) ?_; simp only [Act.put, List.setIfInBounds_toArray, List.set_cons_succ, List.set_cons_zero])
                | (apply WQ.two (by rfl); (intro w' hw'; obtain ⟨pq, rfl⟩ := hw'; go_simp; first | (with_reducible exact Calls.regrown_of (C1.out _ (below_regrown _ _ _))) | exact rfl); simp only [Act.put, List.setIfInBounds_toArray, List.set_cons_succ, List.set_cons_zero]))
              refine WQ.nil ?_
              intro _ hw'
              obtain ⟨⟨dq, osq⟩, hw''⟩ := hw'
              subst hw''
              go_wp2
              go_meet
              exact ⟨by rw [htst]; rw [decide_eq_true (show 0 ≤ x from by omega), decide_eq_true (show x ≤ 255 from by omega), decide_eq_true q4, decide_eq_true (show t.head ≠ -1 - x from q5)]; simp, below_regrown wr dq osq⟩
          · rw [decide_eq_false q4] at C1
            repeat (first
              | (refine WQ.skip (by rfl) ?_; simp only [Act.put, List.setIfInBounds_toArray, List.set_cons_succ, List.set_cons_zero])
              | (apply WQ.two (by rfl); (intro w' hw'; obtain ⟨pq, rfl⟩ := hw'; go_simp; first | (with_reducible exact Calls.regrown_of (C1.out _ (below_regrown _ _ _))) | exact rfl); simp only [Act.put, List.setIfInBounds_toArray, List.set_cons_succ, List.set_cons_zero]))
            refine WQ.nil ?_
            intro _ hw'
            obtain ⟨⟨dq, osq⟩, hw''⟩ := hw'
            subst hw''
            go_wp2
            go_meet
            exact ⟨by rw [htst]; rw [decide_eq_false q4]; simp, below_regrown wr dq osq⟩
        · have hcp := HPR.out y u hprev hkp
          obtain ⟨k', rfl⟩ : ∃ k', k = k' + 1 := ⟨k - 1, by omega⟩
          rw [Nat.add_sub_cancel] at hcp
          have hk' : (0 : Int) ≤ (k' : Int) := Int.natCast_nonneg _
          have hkl : (k' : Int) < (s.length : Int) := by omega
          have hgt : (0 : Int) < (k' : Int) + 1 := by omega
          have hi0 : (0 : Int) ≤ (k' : Int) + 1 := by omega
          have hi1 : (k' : Int) + 1 < (s.length : Int) := by omega
          have hwx := IntWalk.i64_in (-1 - x) ⟨by omega, by omega⟩
          have hwk := IntWalk.i64_in (k' : Int) ⟨by omega, by omega⟩
          have f3 := fun d os => cell_regrown hcp d os
          clear hprev hkp HPR HTST
          by_cases q3 : x ≤ y
          · skip
            repeat (first
              | (refine WQ.skip (by rfl) ?_; simp only [Act.put, List.setIfInBounds_toArray, List.set_cons_succ, List.set_cons_zero])
              | (apply WQ.two (by rfl); (intro w' hw'; obtain ⟨pq, rfl⟩ := hw'; go_simp; first | (with_reducible exact Calls.regrown_of (C1.out _ (below_regrown _ _ _))) | exact rfl); simp only [Act.put, List.setIfInBounds_toArray, List.set_cons_succ, List.set_cons_zero]))
            refine WQ.nil ?_
            intro _ hw'
            obtain ⟨⟨dq, osq⟩, hw''⟩ := hw'
            subst hw''
            go_wp2
            go_meet
            exact ⟨by rw [htst]; rw [decide_eq_false (show ¬ y + 1 ≤ x from by omega)]; simp, below_regrown wr dq osq⟩
          by_cases q4 : t.check = 0
          · rw [decide_eq_true q4] at C1
            by_cases q5 : t.head = -1 - x
            · have q5b : (t.head == -1 - x) = true := by simpa using q5
              have Q5 := Lib.hid q5
              clear q5
              repeat (first
                | (refine WQ.skip (by rfl) ?_; simp only [Act.put, List.setIfInBounds_toArray, List.set_cons_succ, List.set_cons_zero])
                | (apply WQ.two (by rfl); (intro w' hw'; obtain ⟨pq, rfl⟩ := hw'; go_simp; first | (with_reducible exact Calls.regrown_of (C1.out _ (below_regrown _ _ _))) | exact rfl); simp only [Act.put, List.setIfInBounds_toArray, List.set_cons_succ, List.set_cons_zero]))
              refine WQ.nil ?_
              intro _ hw'
              obtain ⟨⟨dq, osq⟩, hw''⟩ := hw'
              subst hw''
              go_wp2
              go_meet
              exact ⟨by rw [htst]; rw [decide_eq_false (show ¬ t.head ≠ -1 - x from fun h => h Q5.out)]; simp, below_regrown wr dq osq⟩
            · have q5b : (t.head == -1 - x) = false := by simpa using q5
              repeat (first
                | (refine WQ.skip (by rfl) ?_; simp only [Act.put, List.setIfInBounds_toArray, List.set_cons_succ, List.set_cons_zero])
                | (apply WQ.two (by rfl); (intro w' hw'; obtain ⟨pq, rfl⟩ := hw'; go_simp; first | (with_reducible exact Calls.regrown_of (C1.out _ (below_regrown _ _ _))) | exact rfl); simp only [Act.put, List.setIfInBounds_toArray, List.set_cons_succ, List.set_cons_zero]))
              refine WQ.nil ?_
              intro _ hw'
              obtain ⟨⟨dq, osq⟩, hw''⟩ := hw'
              subst hw''
              go_wp2
              go_meet
              exact ⟨by rw [htst]; rw [decide_eq_true (show y + 1 ≤ x from by omega), decide_eq_true (show x ≤ 255 from by omega), decide_eq_true q4, decide_eq_true (show t.head ≠ -1 - x from q5)]; simp, below_regrown wr dq osq⟩
          · rw [decide_eq_false q4] at C1
            repeat (first
              | (refine WQ.skip (by rfl) ?_; simp only [Act.put, List.setIfInBounds_toArray, List.set_cons_succ, List.set_cons_zero])
              | (apply WQ.two (by rfl); (intro w' hw'; obtain ⟨pq, rfl⟩ := hw'; go_simp; first | (with_reducible exact Calls.regrown_of (C1.out _ (below_regrown _ _ _))) | exact rfl); simp only [Act.put, List.setIfInBounds_toArray, List.set_cons_succ, List.set_cons_zero]))
            refine WQ.nil ?_
            intro _ hw'
            obtain ⟨⟨dq, osq⟩, hw''⟩ := hw'
            subst hw''
            go_wp2
            go_meet
            exact ⟨by rw [htst]; rw [decide_eq_false q4]; simp, below_regrown wr dq osq⟩
      case rest =>
        obtain ⟨rfl, hbx⟩ := hcut
        have HBX := Lib.hid (HB.out.trans (hbx.mono HB.out.size))
        clear hbx
        cases tst
        · have hd : rightS 0 s = false := by rw [HR.out, HST.out, ← HTST.out]; rfl
          go_wp2
          go_ret
          exact ⟨by first | (rw [hd]; rfl) | rfl, HBX.out⟩
        · have hq := HTST.out
          simp only [Bool.true_eq, Bool.and_eq_true, decide_eq_true_iff] at hq
          have HQ := Lib.hid hq
          have hst := HST.out
          rw [← HTST.out] at hst
          have HST' := Lib.hid hst
          clear hq hst
          go_wp2
          go_roundw
          case rel =>
            have hq := HQ.out
            refine ⟨k + 1, x + 1, by omega, by go_num, .inr ⟨x, t, by omega, by simpa using HSK.out, rfl, by omega, by omega⟩, ?_, HBX.out⟩
            rw [HR.out, HST'.out]
            rfl
          case measure => simp [intOf]; omega
    · have hd : rightS 0 s = true := by rw [HR.out, List.drop_of_length_le (by omega)]; rfl
      go_wp2
      go_ret
      exact ⟨by first | (rw [hd]; rfl) | rfl, HB.out⟩

end Go.Proofs.Ytbljkiodgjgnaaa
