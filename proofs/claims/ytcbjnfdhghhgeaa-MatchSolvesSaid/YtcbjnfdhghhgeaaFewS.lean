/- Contract of the reference's Few of substitutions. -/
import Derived.Test.YtcbjnfdhghhgeaaQ1c
namespace Go.Proofs.Ytcbjnfdhghhgeaa
set_option linter.unusedVariables false
set_option linter.unusedSimpArgs false
open Go.RowKit

def FewI (s : Sb) (w : World) (n i : Value) (wr : World) : Prop := ∃ k m : Nat, k ≤ s.length ∧ i = .int .i64 k ∧ n = .int .i64 (m : Int) ∧ m ≤ 1001 ∧ (m ≤ 500 → ∀ j x, j < k → s[j]? = some x → x.2.size ≤ 500) ∧ Below w.heap.size w wr
def FewPost (s : Sb) (w : World) (e : Ending) (w' : World) : Prop := ∃ b : Bool, e = .returned (.bool b) ∧ (b = true → ∀ x ∈ s, x.2.size ≤ 500) ∧ Below w.heap.size w w'

set_option maxRecDepth 100000 in
set_option maxHeartbeats 1000000 in
theorem fewS_any (s : Sb) (n₀ : Nat) (a : Option Addr) (c : Nat) (w : World) (hn : n₀ ≤ w.heap.size) (hS : IsBs n₀ w s a c) :
    Calls Try.prog 14 #[.slice a s.length c] w (FewPost s w) := by
  have hl : s.length ≤ c ∧ c ≤ maxLen := ⟨hS.1, hS.2.1⟩
  unfold maxLen at hl
  obtain ⟨hl1, hl2⟩ := hl
  have HS := Lib.hid hS
  clear hS
  go_enter Try.func14, Try.ntmps14
  go_wp2
  go_loopw [3, 4] (fun n i wr => FewI s w n i wr) (fun _ i _ => s.length - (intOf i).toNat)
  case atStart => exact ⟨0, 0, Nat.zero_le _, rfl, rfl, by omega, fun _ j x h => by omega, Below.refl _ _⟩
  case round =>
    obtain ⟨k, m, hk, rfl, rfl, hm, hall, hB⟩ := hrel
    have HAL := Lib.hid hall
    have HB := Lib.hid hB
    have hbz := hB.size
    clear hall hB
    by_cases hlt : k < s.length
    · have hk0 : (0 : Int) ≤ (k : Int) := Int.natCast_nonneg _
      have hk1 : (k : Int) < (s.length : Int) := by omega
      by_cases q1 : s.length ≤ 10
      · have q1' : (s.length : Int) ≤ 10 := by omega
        by_cases q2 : m ≤ 500
        · have q2' : (m : Int) ≤ 500 := by omega
          obtain ⟨b, o, x, t, a', c', rfl, hbn, hsk, hxw, htw, hc0, hc1, hc2, hA'⟩ := (HS.out.below (HB.out.mono hn)).elem (i := k) hlt
          have HSK := Lib.hid hsk
          have HA' := Lib.hid hA'
          have hnw : n₀ ≤ wr.heap.size := by omega
          clear hsk hxw htw hA'
          go_wp2_with fail
          refine (count_any t.size t (Nat.le_refl _) 500 n₀ a' c' wr (Nat.le_refl _) hnw HA'.out).mono ?_
          rintro e w2 ⟨rfl, hb2⟩
          obtain ⟨q, hq⟩ : ∃ q : Nat, min t.size (500 + 1) = q := ⟨_, rfl⟩
          rw [hq]
          have hq1 : q ≤ 501 := by omega
          have HB2 := Lib.hid (HB.out.trans (hb2.mono HB.out.size))
          have HQ := Lib.hid hq
          clear hb2 hq
          go_wp2
          go_roundw
          case rel =>
            refine ⟨k + 1, m + q, by omega, by go_num, by go_num, by omega, fun h j y hj hy => ?_, HB2.out⟩
            by_cases e : j = k
            · subst e
              rw [HSK.out] at hy
              cases hy
              have := HQ.out
              show t.size ≤ 500
              omega
            · exact HAL.out (by omega) j y (by omega) hy
          case measure => simp [intOf]; omega
        · have q2' : ¬ (m : Int) ≤ 500 := by omega
          go_wp2
          go_ret
          exact ⟨false, rfl, fun h => (by cases h), HB.out⟩
      · have q1' : ¬ (s.length : Int) ≤ 10 := by omega
        go_wp2
        go_ret
        exact ⟨false, rfl, fun h => (by cases h), HB.out⟩
    · have hk1 : ¬ (k : Int) < (s.length : Int) := by omega
      have hend : m ≤ 500 → ∀ x ∈ s, x.2.size ≤ 500 := fun h x hx => by
        obtain ⟨j, hj⟩ := List.getElem?_of_mem hx
        exact HAL.out h j x (by have := (List.getElem?_eq_some_iff.1 hj).1; omega) hj
      have HE := Lib.hid hend
      clear hend
      by_cases q1 : s.length ≤ 10
      · have q1' : (s.length : Int) ≤ 10 := by omega
        by_cases q2 : m ≤ 500
        · have q2' : (m : Int) ≤ 500 := by omega
          go_wp2
          go_ret
          exact ⟨true, rfl, fun _ => HE.out q2, HB.out⟩
        · have q2' : ¬ (m : Int) ≤ 500 := by omega
          go_wp2
          go_ret
          exact ⟨false, rfl, fun h => (by cases h), HB.out⟩
      · have q1' : ¬ (s.length : Int) ≤ 10 := by omega
        go_wp2
        go_ret
        exact ⟨false, rfl, fun h => (by cases h), HB.out⟩

end Go.Proofs.Ytcbjnfdhghhgeaa
