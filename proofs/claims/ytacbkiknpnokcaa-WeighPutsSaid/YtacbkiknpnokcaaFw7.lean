/- Contract of the reference's Few at signatures. -/
import Derived.Test.YtacbkiknpnokcaaSg
import Derived.Test.YtacbkiknpnokcaaLeaf
namespace Go.Proofs.Ytacbkiknpnokcaa
set_option linter.unusedVariables false
set_option linter.unusedSimpArgs false
open Go.RowKit

def FgI (g : Sg) (w : World) (i : Value) (wr : World) : Prop := ∃ k : Nat, k ≤ g.length ∧ i = .int .i64 k ∧ Below w.heap.size w wr
def FgPost (w : World) (e : Ending) (w' : World) : Prop := ∃ b : Bool, e = .returned (.bool b) ∧ Below w.heap.size w w'

set_option maxRecDepth 100000 in
set_option maxHeartbeats 2000000 in
theorem fewG_any (g : Sg) (n₀ : Nat) (a : Option Addr) (c : Nat) (w : World) (hn : n₀ ≤ w.heap.size) (hG : IsSg n₀ w g a c) :
    Calls Try.prog 6 #[.slice a g.length c] w (FgPost w) := by
  have hlc : g.length ≤ c ∧ c ≤ maxLen := ⟨hG.1, hG.2.1⟩
  unfold maxLen at hlc
  obtain ⟨hl1, hl2⟩ := hlc
  have HG := Lib.hid hG
  clear hG
  go_enter Try.func6, Try.ntmps6
  go_wp2
  go_loopw [3] (fun i wr => FgI g w i wr) (fun i _ => g.length - (intOf i).toNat)
  case atStart => exact ⟨0, Nat.zero_le _, rfl, Below.refl _ _⟩
  case round =>
    obtain ⟨k, hk, rfl, hB⟩ := hrel
    have HB := Lib.hid hB
    have hbz := hB.size
    by_cases hlt : k < g.length
    · obtain ⟨b, o, x, rfl, hbn, hs, hxw, hc0, hc1, hc2, hc3⟩ := (HG.out.below (hB.mono hn)).elem (i := k) hlt
      have hk0 : (0 : Int) ≤ (k : Int) := Int.natCast_nonneg _
      have hk1 : (k : Int) < (g.length : Int) := by omega
      have hxs := hxw.1
      unfold maxLen at hxs
      clear hs hxw hB
      by_cases q : 300 < g.length
      · go_wp2
        all_goals (go_ret; exact ⟨_, rfl, HB.out⟩)
      · by_cases q2 : 100 < x.name.size
        · go_wp2
          all_goals (go_ret; exact ⟨_, rfl, HB.out⟩)
        · go_wp2
          go_roundw
          case rel => exact ⟨k + 1, by omega, by go_num, HB.out⟩
          case measure => simp [intOf]; omega
    · obtain rfl : k = g.length := by omega
      clear hB
      go_wp2
      all_goals (go_ret; exact ⟨_, rfl, HB.out⟩)

end Go.Proofs.Ytacbkiknpnokcaa
