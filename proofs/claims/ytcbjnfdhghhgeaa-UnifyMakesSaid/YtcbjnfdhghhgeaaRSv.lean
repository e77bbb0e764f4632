/- The reference's solver: which side becomes the other one. -/
import Derived.Test.YtcbjnfdhghhgeaaRo4
import Derived.Test.YtcbjnfdhghhgeaaRSb
import Derived.Test.YtcbjnfdhghhgeaaBoth
import Derived.Test.YtcbjnfdhghhgeaaRVr
import Derived.Deep.AppendLies
import Derived.StillTailTactics
namespace Go.Proofs.Ytcbjnfdhghhgeaa
set_option linter.unusedVariables false
set_option linter.unusedSimpArgs false
open Go.RowKit

/-- Which one of two becomes the other one: 1 the left, 2 the right one, 0 none. -/
def whT (p t : T) : Int := if p.head < 0 then (if t.head < 0 then (if p.head < t.head then 1 else 2) else 1) else if t.head < 0 then 2 else 0

set_option maxRecDepth 100000 in
set_option maxHeartbeats 2000000 in
theorem which_any (p t : T) (hp : (Lit.int .i64 p.head).wf = true) (ht : (Lit.int .i64 t.head).wf = true) (a : Option Addr) (c : Nat) (a' : Option Addr) (c' : Nat) (w : World) :
    Calls Try.prog 113 #[tm p.head a p.args.length c, tm t.head a' t.args.length c'] w (fun e w' => e = .returned (.int .i64 (whT p t)) ∧ Below w.heap.size w w') := by
  have hB2 : Below w.heap.size w ((w.alloc (tmCells p.head a p.args.length c)).alloc (tmCells t.head a' t.args.length c')) := ((Below.refl _ w).alloc (Nat.le_refl _) _).alloc (by simp) _
  have HB2 := Lib.hid hB2
  clear hB2
  have hwp := wf_low hp
  have hwt := wf_low ht
  go_enter Try.func113, Try.ntmps113
  unfold whT
  by_cases h1 : p.head < 0
  · by_cases h2 : t.head < 0
    · by_cases h3 : p.head < t.head
      · rw [if_pos h1, if_pos h2, if_pos h3]
        go_wp2
        go_ret
        exact ⟨rfl, HB2.out⟩
      · rw [if_pos h1, if_pos h2, if_neg h3]
        go_wp2
        go_ret
        exact ⟨rfl, HB2.out⟩
    · rw [if_pos h1, if_neg h2]
      go_wp2
      go_ret
      exact ⟨rfl, HB2.out⟩
  · by_cases h2 : t.head < 0
    · rw [if_neg h1, if_pos h2]
      go_wp2
      go_ret
      exact ⟨rfl, HB2.out⟩
    · rw [if_neg h1, if_neg h2]
      go_wp2
      go_ret
      exact ⟨rfl, HB2.out⟩

end Go.Proofs.Ytcbjnfdhghhgeaa
