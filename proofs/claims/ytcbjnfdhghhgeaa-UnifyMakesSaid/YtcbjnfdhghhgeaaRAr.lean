/- Contract of the reference's All (layer 1). -/
import Derived.Test.YtcbjnfdhghhgeaaQ1g
import Derived.Test.YtcbjnfdhghhgeaaAlU
namespace Go.Proofs.Ytcbjnfdhghhgeaa
set_option linter.unusedVariables false
set_option linter.unusedSimpArgs false
open Go.RowKit

set_option maxRecDepth 100000 in
set_option maxHeartbeats 2000000 in
theorem refAllR_any (ts : List T) (hts : ∀ t ∈ ts, t.size ≤ 1000000000000) (n₀ : Nat) (a : Option Addr) (c : Nat) (w : World) (hn : n₀ ≤ w.heap.size) (hA : IsArgs n₀ w ts a c) :
    Calls Try.prog 64 #[.slice a ts.length c] w fun e w' => e = .returned (.bool (!badL ts)) ∧ Below w.heap.size w w' := by
  have hlc : ts.length ≤ c ∧ c ≤ maxLen := ⟨hA.1, hA.2.1⟩
  unfold maxLen at hlc
  obtain ⟨hl1, hl2⟩ := hlc
  have HA := Lib.hid hA
  have HT := Lib.hid hts
  clear hA hts
  go_enter Try.func64, Try.ntmps64
  go_wp2
  go_loopw [3] (fun i wr => IdxI ts w i wr) (fun i _ => ts.length - (intOf i).toNat)
  case atStart => exact ⟨0, Nat.zero_le _, rfl, by simp, Below.refl _ _⟩
  case round =>
    obtain ⟨k, hk, rfl, hbd, hB⟩ := hrel
    have HBD := Lib.hid hbd
    have HB := Lib.hid hB
    have hbz := hB.size
    clear hbd hB
    by_cases hlt : k < ts.length
    · obtain ⟨b, o, s, a', c', rfl, hbn, hs, hswf, hc1, hc2, hA'⟩ := (HA.out.below (HB.out.mono hn)).elem (i := k) hlt
      have hk0 : (0 : Int) ≤ (k : Int) := Int.natCast_nonneg _
      have hk1 : (k : Int) < (ts.length : Int) := by omega
      have hbw : b < wr.heap.size := by omega
      have CN := Lib.hid (refRight_any s (HT.out s (List.mem_of_getElem? hs)) n₀ a' c' wr (by omega) hA')
      have hst : badL (ts.drop k) = (decide (s.check ≠ 0) || badL (ts.drop (k + 1))) := by
        obtain ⟨hkl, hke⟩ := List.getElem?_eq_some_iff.1 hs
        rw [List.drop_eq_getElem_cons hkl, hke]; rfl
      have HSTEP := Lib.hid hst
      clear hs hswf hA' hst
      go_wp2_with fail
      refine CN.out.mono ?_
      rintro e w2 ⟨rfl, hb2⟩
      have HB2 := Lib.hid (HB.out.trans (hb2.mono hbz))
      clear hb2
      by_cases hd : s.check = 0
      · have H0 := Lib.hid (show badL (ts.drop k) = badL (ts.drop (k + 1)) from by rw [HSTEP.out, decide_eq_false (fun h => h hd)]; rfl)
        rw [decide_eq_true hd]
        clear hd
        go_wp2
        go_roundw
        case rel => exact ⟨k + 1, by omega, by go_num, HBD.out.trans H0.out, HB2.out⟩
        case measure => simp [intOf]; omega
      · have H0 := Lib.hid (show badL ts = true from by rw [HBD.out, HSTEP.out, decide_eq_true (show s.check ≠ 0 from hd)]; rfl)
        rw [decide_eq_false hd]
        clear hd
        go_wp2
        go_ret
        exact ⟨by rw [H0.out]; rfl, HB2.out⟩
    · obtain rfl : k = ts.length := by omega
      have H0 := Lib.hid (show badL ts = false from by rw [HBD.out, List.drop_of_length_le (Nat.le_refl _)]; rfl)
      go_wp2
      go_ret
      exact ⟨by rw [H0.out]; rfl, HB.out⟩

end Go.Proofs.Ytcbjnfdhghhgeaa
