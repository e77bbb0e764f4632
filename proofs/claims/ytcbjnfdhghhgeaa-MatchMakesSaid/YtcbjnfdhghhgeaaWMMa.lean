/- Contracts of the reference's All (layers 1 and 5) and Few (layer 5); the walk of MatchMakes. -/
import Derived.Test.YtcbjnfdhghhgeaaGa2
import Derived.Test.YtcbjnfdhghhgeaaFw5
import Derived.Test.YtcbjnfdhghhgeaaRAr
namespace Go.Proofs.Ytcbjnfdhghhgeaa
set_option linter.unusedVariables false
set_option linter.unusedSimpArgs false
open Go.RowKit

set_option maxRecDepth 100000 in
set_option maxHeartbeats 4000000 in
theorem refMat_any (ps ts : List T) (hps : T.sizes ps ≤ 100000) (hts : T.sizes ts ≤ 100000) (n₀ : Nat) (a : Option Addr) (c : Nat) (a' : Option Addr) (c' : Nat) (w : World) (hn : n₀ ≤ w.heap.size) (hA : IsArgs n₀ w ps a c) (hA' : IsArgs n₀ w ts a' c') :
    Calls Try.prog 34 #[.slice a ps.length c, .slice a' ts.length c'] w (MatPost ps ts w) := by
  have hlc : ps.length ≤ c ∧ c ≤ maxLen := ⟨hA.1, hA.2.1⟩
  have hlc' : ts.length ≤ c' ∧ c' ≤ maxLen := ⟨hA'.1, hA'.2.1⟩
  unfold maxLen at hlc hlc'
  obtain ⟨hl1, hl2⟩ := hlc
  obtain ⟨hl3, hl4⟩ := hlc'
  have LS := Lib.hid (show ∀ W, Below w.heap.size w W → IsArgs n₀ W ps a c ∧ IsArgs n₀ W ts a' c' ∧ n₀ ≤ W.heap.size from fun W hW => ⟨hA.below (hW.mono hn), hA'.below (hW.mono hn), Nat.le_trans hn hW.size⟩)
  have HPS := Lib.hid (show ∀ t ∈ ps, t.size ≤ 1000000000000 from fun t ht => by have := mem_sizes ht; omega)
  have HTS := Lib.hid (show ∀ t ∈ ts, t.size ≤ 1000000000000 from fun t ht => by have := mem_sizes ht; omega)
  clear hA hA'
  go_enter Try.func34, Try.ntmps34
  go_wp2_with fail
  have ls := LS.out w (Below.refl _ _)
  refine (refAllR_any ps HPS.out n₀ a c w ls.2.2 ls.1).mono ?_
  clear ls
  rintro e w1 ⟨rfl, hb⟩
  have HB1 := Lib.hid hb
  clear hb
  cases q1 : badL ps
  case true =>
    have Q1 := Lib.hid q1
    clear q1
    go_wp2
    refine bodyPost_ret (v := .tuple #[.slice none 0 0, .bool false, .int .i64 1]) (by simp [results, Try.results34, go_sem]) rfl ?_
    exact ⟨[], false, 1, .inl ⟨.inr (.inl Q1.out), rfl, rfl, rfl⟩, none, 0, rfl, IsBs.nil _ _ _ (by simp [maxLen]), HB1.out⟩
  have Q1 := Lib.hid q1
  clear q1
  go_wp2_with fail
  have ls := LS.out w1 HB1.out
  refine (refAllR_any ts HTS.out n₀ a' c' w1 ls.2.2 ls.2.1).mono ?_
  clear ls
  rintro e w2 ⟨rfl, hb⟩
  have HB2 := Lib.hid (HB1.out.trans (hb.mono HB1.out.size))
  clear hb HB1
  cases q2 : badL ts
  case true =>
    have Q2 := Lib.hid q2
    clear q2
    go_wp2
    refine bodyPost_ret (v := .tuple #[.slice none 0 0, .bool false, .int .i64 1]) (by simp [results, Try.results34, go_sem]) rfl ?_
    exact ⟨[], false, 1, .inl ⟨.inr (.inr Q2.out), rfl, rfl, rfl⟩, none, 0, rfl, IsBs.nil _ _ _ (by simp [maxLen]), HB2.out⟩
  have Q2 := Lib.hid q2
  clear q2
  by_cases hl : ps.length = ts.length
  case neg =>
    have hne : ((ps.length : Int) == (ts.length : Int)) = false := by rw [beq_eq_false_iff_ne]; intro e; exact hl (by omega)
    have hnb : ((ps.length : Int) != (ts.length : Int)) = true := by rw [bne, hne]; rfl
    have HL := Lib.hid hl
    clear hl
    go_wp2
    refine bodyPost_ret (v := .tuple #[.slice none 0 0, .bool false, .int .i64 1]) (by simp [results, Try.results34, go_sem]) rfl ?_
    exact ⟨[], false, 1, .inl ⟨.inl HL.out, rfl, rfl, rfl⟩, none, 0, rfl, IsBs.nil _ _ _ (by simp [maxLen]), HB2.out⟩
  have HL := Lib.hid hl
  have CG : Calls Try.prog 65 #[.slice a ts.length c, .slice a' ts.length c', .slice none 0 0] w2 (GLPost (T.exts ps ts []) w2) := by
    have ls := LS.out w2 HB2.out
    have := gatherL_any ps ts hl hps hts n₀ a c a' c' w2 ls.2.2 ls.1 ls.2.1
    rw [hl] at this
    exact this
  have HCG := Lib.hid CG
  clear CG
  rw [hl]
  clear hl
  go_wp2_with fail
  refine HCG.out.mono ?_
  rintro e w3 ⟨hb, h3⟩
  have HB3 := Lib.hid (HB2.out.trans (hb.mono HB2.out.size))
  clear hb HB2 HCG
  rcases h3 with ⟨M, a3, c3, hM, rfl, hI⟩ | ⟨hM, rfl⟩
  case inr =>
    have HM := Lib.hid hM
    clear hM
    go_wp2
    refine bodyPost_ret (v := .tuple #[.slice none 0 0, .bool false, .int .i64 0]) (by simp [results, Try.results34, go_sem]) rfl ?_
    exact ⟨[], false, 0, .inr ⟨⟨HL.out, Q1.out, Q2.out⟩, .inl ⟨HM.out, rfl, rfl, rfl⟩⟩, none, 0, rfl, IsBs.nil _ _ _ (by simp [maxLen]), HB3.out⟩
  obtain ⟨f1, f2, f3⟩ := exts_facts HL.out Q1.out Q2.out hM
  have HM := Lib.hid hM
  have CT := Lib.hid (tidy_any M f1 f2 f3 w3.heap.size a3 c3 w3 (Nat.le_refl _) hI)
  clear hM hI f1 f2 f3
  go_wp2_with fail
  refine CT.out.mono ?_
  rintro e w4 ⟨a4, c4, rfl, hS, hb⟩
  have HS := Lib.hid hS
  have HF := Lib.hid (HB3.out.trans (hb.mono HB3.out.size))
  clear hS hb
  go_wp2
  refine bodyPost_ret (v := .tuple #[.slice a4 (sm M).length c4, .bool true, .int .i64 0]) (by simp [results, Try.results34, go_sem]) rfl ?_
  exact ⟨sm M, true, 0, .inr ⟨⟨HL.out, Q1.out, Q2.out⟩, .inr ⟨M, HM.out, rfl, rfl, rfl⟩⟩, a4, c4, rfl, HS.out, HF.out⟩

theorem MatR.fn {ps ts : List T} {s s' : Sb} {b b' : Bool} {k k' : Int} (h : MatR ps ts s b k) (h' : MatR ps ts s' b' k') : s = s' ∧ b = b' ∧ k = k' := by
  have no : (ps.length ≠ ts.length ∨ badL ps = true ∨ badL ts = true) → (ps.length = ts.length ∧ badL ps = false ∧ badL ts = false) → False := by
    rintro h ⟨h1, h2, h3⟩
    rcases h with h | h | h
    · exact h h1
    · rw [h] at h2; cases h2
    · rw [h] at h3; cases h3
  rcases h with ⟨hb, rfl, rfl, rfl⟩ | ⟨hg, h⟩ <;> rcases h' with ⟨hb', rfl, rfl, rfl⟩ | ⟨hg', h'⟩
  · exact ⟨rfl, rfl, rfl⟩
  · exact (no hb hg').elim
  · exact (no hb' hg).elim
  · rcases h with ⟨hn, rfl, rfl, rfl⟩ | ⟨M, hM, rfl, rfl, rfl⟩ <;> rcases h' with ⟨hn', rfl, rfl, rfl⟩ | ⟨M', hM', rfl, rfl, rfl⟩
    · exact ⟨rfl, rfl, rfl⟩
    · rw [hn] at hM'; cases hM'
    · rw [hn'] at hM; cases hM
    · rw [hM] at hM'; cases hM'; exact ⟨rfl, rfl, rfl⟩
theorem MatR.small {ps ts : List T} {s : Sb} {b : Bool} {k : Int} (h : MatR ps ts s b k) : ∀ q ∈ s, q.2.size ≤ 1000000000000 := by
  rcases h with ⟨_, rfl, _⟩ | ⟨⟨hl, h1, h2⟩, ⟨_, rfl, _⟩ | ⟨M, hM, rfl, _⟩⟩
  · simp
  · simp
  · intro q hq
    obtain ⟨f1, f2, f3⟩ := exts_facts hl h1 h2 hM
    obtain ⟨m1, m2, _⟩ := sm_mem.1 hq
    rw [m2]
    exact Nat.le_trans (check_ok (f2 _ (mem_of_bndN f1 m1))).1 (by omega)

set_option maxRecDepth 100000 in
set_option maxHeartbeats 4000000 in
theorem matchMakes_walk (ps ts : List T) (a : Option Addr) (c : Nat) (a' : Option Addr) (c' : Nat) (w : World) (hA : IsArgs w.heap.size w ps a c) (hB : IsArgs w.heap.size w ts a' c') :
    Calls Try.prog 8 #[.slice a ps.length c, .slice a' ts.length c'] w fun e w' => e = .returned (.bool true) ∧ Below w.heap.size w w' := by
  have D := Lib.hid (((Later.below (Below.refl _ w)).and (later_args hB)).and (later_args hA))
  clear hA hB
  go_enter Try.func8, Try.ntmps8
  go_wp2_with fail
  refine (few5_any ps w.heap.size a c w (Nat.le_refl _) D.out.now.1).mono ?_
  rintro e w1 ⟨f1, rfl, hfew, hb⟩
  have D1 := Lib.hid (D.out.mv hb)
  clear hb D
  cases f1
  case false =>
    have HQ := Lib.hid D1.out.now.2.2
    clear D1 hfew
    go_wp2
    go_ret
    exact ⟨rfl, HQ.out⟩
  have hps := hfew rfl
  clear hfew
  go_wp2_with fail
  refine (few5_any ts w1.heap.size a' c' w1 (Nat.le_refl _) D1.out.now.2.1).mono ?_
  rintro e w2 ⟨f1, rfl, hfew, hb⟩
  have D2 := Lib.hid (D1.out.mv hb)
  clear hb D1
  cases f1
  case false =>
    have HQ := Lib.hid D2.out.now.2.2
    clear D2 hfew
    go_wp2
    go_ret
    exact ⟨rfl, HQ.out⟩
  have hts := hfew rfl
  clear hfew
  go_wp2_with fail
  refine (matAll_any ps ts (by omega) (by omega) w2.heap.size a c a' c' w2 (Nat.le_refl _) D2.out.now.1 D2.out.now.2.1).mono ?_
  rintro e w3 ⟨s, b, k, hR, a3, c3, rfl, hS, hb⟩
  have D3 := Lib.hid ((D2.out.mv hb).and (later_bs hS))
  have R1 := Lib.hid hR
  clear hb hS hR D2
  go_wp2_with fail
  refine (refMat_any ps ts (by omega) (by omega) w3.heap.size a c a' c' w3 (Nat.le_refl _) D3.out.now.2.1 D3.out.now.2.2.1).mono ?_
  rintro e w4 ⟨s', b', k', hR, a4, c4, rfl, hS, hb⟩
  obtain ⟨rfl, rfl, rfl⟩ := R1.out.fn hR
  have D4 := Lib.hid ((D3.out.mv hb).and (later_bs hS))
  have HSS := Lib.hid R1.out.small
  clear hb hS hR D3 R1
  go_wp2_with fail
  refine (awake5_any w4).mono ?_
  rintro e w5 ⟨rfl, hb⟩
  have D5 := Lib.hid (D4.out.mv hb)
  clear hb D4
  go_wp2_with fail
  refine (sameS_any s HSS.out w5.heap.size a3 c3 a4 c4 w5 (Nat.le_refl _) D5.out.now.2.1 D5.out.now.1).mono ?_
  rintro e w6 ⟨rfl, hb⟩
  have HQ := Lib.hid (D5.out w6 hb).2.2.2.2
  clear hb D5
  have hbeq : (b == b) = true := by simp
  have hkeq : (k == k) = true := by simp
  go_wp2
  go_ret
  exact ⟨by simp, HQ.out⟩

end Go.Proofs.Ytcbjnfdhghhgeaa
