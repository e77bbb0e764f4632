/-
  NARROWER THAN 'FOR EVERY INPUT', by the rows' own cells (each row's printed sentence says how): UnifyMakes: loops · UnifySolves: loops · UnifyMost: loops · UnifySides: loops · UnifyShifted: loops.
  DERIVED. THE GIVEN ROWS OF THIS SEAT. 5 by the template 'for every input the law returns true; each argument reads behind the call as it read before'; 0 by the template 'total and deterministic' (their statements: YtipakghocoddjaaTotals.lean).
  GIVEN WITH THE SEED: the statements are not yours to turn. If you find one false, say at which input.
  Laid BY PROGRAM, IN A SANDBOX (cutbox-rows.mjs): the forced cells as the released guide's own fill.sh prints them over the translation 43825b9f23bb1403… (all of the seat's roots in one cut). By AI agents, Wed Nov 11 2026. No macro, syntax, notation, axiom, sorry.
-/
import Derived.Test.YtipakghocoddjaaChecked
import GoSem.Claim
import GoSem.ClaimJoined
import GoSem.ClaimMapViews
import Derived.JoinedTies
import Derived.KernelRfl
namespace Go.Proofs.Ytipakghocoddjaa
/- THE CELL 'sum', in the pinned program and in every row, IS THE sha256 OF THE DUMP (.gsa) THAT YtipakghocoddjaaProg.lean LOADS. Nothing in Lean hashes anything: it is a label: what it is worth is what the hold of that sum in a sandbox is worth. -/
noncomputable def Try.pinned : Pinned := { name := "ytipakghocoddjaa", sum := "43825b9f23bb14037ca249dff43df59ec4775710aa6d4456e7cebaa6bbd3bf2d", checked := Try.checked }
namespace Rows
def none {H : Type} : Left H := { results := [], args := [] }

/-- 'elenchuslaw04.UnifyMakes': WHATEVER THE INPUT: true; the input reads as it did. -/
def unifyMakesSpec : ChangeSpec := { name := "unifyMakes", fn := fun _ => fun
  | [d1, d2] => { results := [.lit (.bool true)], args := [d1, d2] }
  | _ => none }
def unifyMakesRow : OpenClaim := { program := "ytipakghocoddjaa", sum := "43825b9f23bb14037ca249dff43df59ec4775710aa6d4456e7cebaa6bbd3bf2d", func := "elenchus/elenchuslaw04.UnifyMakes", spec := "unifyMakes", unfollowed := true, recurses := true, loops := true, apart := false }
def UnifyMakesSaid : Prop := unifyMakesRow.holds Try.pinned (OpenSpec.ofChange unifyMakesSpec)

/-- ITS FALSE NEIGHBOUR: 'it returns false'. Refute it at one input. -/
def unifyMakesWrong : ChangeSpec := { name := "unifyMakes", fn := fun _ => fun
  | [d1, d2] => { results := [.lit (.bool false)], args := [d1, d2] }
  | _ => none }
def UnifyMakesWrongFalsely : Prop := unifyMakesRow.holds Try.pinned (OpenSpec.ofChange unifyMakesWrong)

/-- 'elenchuslaw04.UnifySolves': WHATEVER THE INPUT: true; the input reads as it did. -/
def unifySolvesSpec : ChangeSpec := { name := "unifySolves", fn := fun _ => fun
  | [d1, d2] => { results := [.lit (.bool true)], args := [d1, d2] }
  | _ => none }
def unifySolvesRow : OpenClaim := { program := "ytipakghocoddjaa", sum := "43825b9f23bb14037ca249dff43df59ec4775710aa6d4456e7cebaa6bbd3bf2d", func := "elenchus/elenchuslaw04.UnifySolves", spec := "unifySolves", unfollowed := true, recurses := true, loops := true, apart := false }
def UnifySolvesSaid : Prop := unifySolvesRow.holds Try.pinned (OpenSpec.ofChange unifySolvesSpec)

/-- ITS FALSE NEIGHBOUR: 'it returns false'. Refute it at one input. -/
def unifySolvesWrong : ChangeSpec := { name := "unifySolves", fn := fun _ => fun
  | [d1, d2] => { results := [.lit (.bool false)], args := [d1, d2] }
  | _ => none }
def UnifySolvesWrongFalsely : Prop := unifySolvesRow.holds Try.pinned (OpenSpec.ofChange unifySolvesWrong)

/-- 'elenchuslaw04.UnifyMost': WHATEVER THE INPUT: true; the input reads as it did. -/
def unifyMostSpec : ChangeSpec := { name := "unifyMost", fn := fun _ => fun
  | [d1, d2, d3] => { results := [.lit (.bool true)], args := [d1, d2, d3] }
  | _ => none }
def unifyMostRow : OpenClaim := { program := "ytipakghocoddjaa", sum := "43825b9f23bb14037ca249dff43df59ec4775710aa6d4456e7cebaa6bbd3bf2d", func := "elenchus/elenchuslaw04.UnifyMost", spec := "unifyMost", unfollowed := true, recurses := true, loops := true, apart := false }
def UnifyMostSaid : Prop := unifyMostRow.holds Try.pinned (OpenSpec.ofChange unifyMostSpec)

/-- ITS FALSE NEIGHBOUR: 'it returns false'. Refute it at one input. -/
def unifyMostWrong : ChangeSpec := { name := "unifyMost", fn := fun _ => fun
  | [d1, d2, d3] => { results := [.lit (.bool false)], args := [d1, d2, d3] }
  | _ => none }
def UnifyMostWrongFalsely : Prop := unifyMostRow.holds Try.pinned (OpenSpec.ofChange unifyMostWrong)

/-- 'elenchuslaw04.UnifySides': WHATEVER THE INPUT: true; the input reads as it did. -/
def unifySidesSpec : ChangeSpec := { name := "unifySides", fn := fun _ => fun
  | [d1, d2, d3] => { results := [.lit (.bool true)], args := [d1, d2, d3] }
  | _ => none }
def unifySidesRow : OpenClaim := { program := "ytipakghocoddjaa", sum := "43825b9f23bb14037ca249dff43df59ec4775710aa6d4456e7cebaa6bbd3bf2d", func := "elenchus/elenchuslaw04.UnifySides", spec := "unifySides", unfollowed := true, recurses := true, loops := true, apart := false }
def UnifySidesSaid : Prop := unifySidesRow.holds Try.pinned (OpenSpec.ofChange unifySidesSpec)

/-- ITS FALSE NEIGHBOUR: 'it returns false'. Refute it at one input. -/
def unifySidesWrong : ChangeSpec := { name := "unifySides", fn := fun _ => fun
  | [d1, d2, d3] => { results := [.lit (.bool false)], args := [d1, d2, d3] }
  | _ => none }
def UnifySidesWrongFalsely : Prop := unifySidesRow.holds Try.pinned (OpenSpec.ofChange unifySidesWrong)

/-- 'elenchuslaw04.UnifyShifted': WHATEVER THE INPUT: true; the input reads as it did. -/
def unifyShiftedSpec : ChangeSpec := { name := "unifyShifted", fn := fun _ => fun
  | [d1, d2] => { results := [.lit (.bool true)], args := [d1, d2] }
  | _ => none }
def unifyShiftedRow : OpenClaim := { program := "ytipakghocoddjaa", sum := "43825b9f23bb14037ca249dff43df59ec4775710aa6d4456e7cebaa6bbd3bf2d", func := "elenchus/elenchuslaw04.UnifyShifted", spec := "unifyShifted", unfollowed := true, recurses := true, loops := true, apart := false }
def UnifyShiftedSaid : Prop := unifyShiftedRow.holds Try.pinned (OpenSpec.ofChange unifyShiftedSpec)

/-- ITS FALSE NEIGHBOUR: 'it returns false'. Refute it at one input. -/
def unifyShiftedWrong : ChangeSpec := { name := "unifyShifted", fn := fun _ => fun
  | [d1, d2] => { results := [.lit (.bool false)], args := [d1, d2] }
  | _ => none }
def UnifyShiftedWrongFalsely : Prop := unifyShiftedRow.holds Try.pinned (OpenSpec.ofChange unifyShiftedWrong)

/- THE SECOND FORM. 'bulk': how many values and letters a reading holds, each counted each time it is reached (what is shared counts as often as it is met; a slice's spare places count too). A statement '..UptoSaid' is the law's where the arguments, and the package variables that the reading takes, are together of bulk at most 1048576: NARROWER than '..Said'. Prove '..Said' where nothing that the law and all that it calls make is longer than what came in: it says more and counts as full. Else prove '..UptoSaid'. A law counts once. -/
mutual
def uptoBulk {H : Type} : DataW H → Nat
  | .lit (.string bytes) => bytes.length + 1
  | .lit _ => 1
  | .nil => 1
  | .ptr d => uptoBulk d + 1
  | .slice elems spare => uptoBulkAll elems + uptoBulkAll spare + 1
  | .agg parts => uptoBulkAll parts + 1
  | .iface _ d => uptoBulk d + 1
  | .map entries => uptoBulkEntries entries + 1
  | .held _ => 1
def uptoBulkAll {H : Type} : List (DataW H) → Nat
  | [] => 0
  | d :: r => uptoBulk d + uptoBulkAll r
def uptoBulkEntries {H : Type} : List (Lit × DataW H) → Nat
  | [] => 0
  | x :: r => uptoBulkEntry x + uptoBulkEntries r
def uptoBulkEntry {H : Type} : Lit × DataW H → Nat
  | (.string bytes, d) => bytes.length + uptoBulk d + 1
  | (_, d) => uptoBulk d + 1
 end
def uptoSmall : (H : Type) → List (DataW H) → Bool := fun _ ds => decide (uptoBulkAll ds ≤ 1048576)
def OpenSpec.upto (s : _root_.Go.ChangeSpec) : _root_.Go.OpenSpec := { _root_.Go.OpenSpec.ofChange s with cond := some uptoSmall }

/-- 'elenchuslaw04.UnifyMakes', WHERE WHAT IT READS IS OF BULK AT MOST 1048576: true; the input reads as it did. -/
def unifyMakesUptoRow : OpenClaim := { program := "ytipakghocoddjaa", sum := "43825b9f23bb14037ca249dff43df59ec4775710aa6d4456e7cebaa6bbd3bf2d", func := "elenchus/elenchuslaw04.UnifyMakes", spec := "unifyMakes", unfollowed := true, recurses := true, loops := true, apart := false, narrowed := true }
def UnifyMakesUptoSaid : Prop := unifyMakesUptoRow.holds Try.pinned (OpenSpec.upto unifyMakesSpec)

/-- 'elenchuslaw04.UnifySolves', WHERE WHAT IT READS IS OF BULK AT MOST 1048576: true; the input reads as it did. -/
def unifySolvesUptoRow : OpenClaim := { program := "ytipakghocoddjaa", sum := "43825b9f23bb14037ca249dff43df59ec4775710aa6d4456e7cebaa6bbd3bf2d", func := "elenchus/elenchuslaw04.UnifySolves", spec := "unifySolves", unfollowed := true, recurses := true, loops := true, apart := false, narrowed := true }
def UnifySolvesUptoSaid : Prop := unifySolvesUptoRow.holds Try.pinned (OpenSpec.upto unifySolvesSpec)

/-- 'elenchuslaw04.UnifyMost', WHERE WHAT IT READS IS OF BULK AT MOST 1048576: true; the input reads as it did. -/
def unifyMostUptoRow : OpenClaim := { program := "ytipakghocoddjaa", sum := "43825b9f23bb14037ca249dff43df59ec4775710aa6d4456e7cebaa6bbd3bf2d", func := "elenchus/elenchuslaw04.UnifyMost", spec := "unifyMost", unfollowed := true, recurses := true, loops := true, apart := false, narrowed := true }
def UnifyMostUptoSaid : Prop := unifyMostUptoRow.holds Try.pinned (OpenSpec.upto unifyMostSpec)

/-- 'elenchuslaw04.UnifySides', WHERE WHAT IT READS IS OF BULK AT MOST 1048576: true; the input reads as it did. -/
def unifySidesUptoRow : OpenClaim := { program := "ytipakghocoddjaa", sum := "43825b9f23bb14037ca249dff43df59ec4775710aa6d4456e7cebaa6bbd3bf2d", func := "elenchus/elenchuslaw04.UnifySides", spec := "unifySides", unfollowed := true, recurses := true, loops := true, apart := false, narrowed := true }
def UnifySidesUptoSaid : Prop := unifySidesUptoRow.holds Try.pinned (OpenSpec.upto unifySidesSpec)

/-- 'elenchuslaw04.UnifyShifted', WHERE WHAT IT READS IS OF BULK AT MOST 1048576: true; the input reads as it did. -/
def unifyShiftedUptoRow : OpenClaim := { program := "ytipakghocoddjaa", sum := "43825b9f23bb14037ca249dff43df59ec4775710aa6d4456e7cebaa6bbd3bf2d", func := "elenchus/elenchuslaw04.UnifyShifted", spec := "unifyShifted", unfollowed := true, recurses := true, loops := true, apart := false, narrowed := true }
def UnifyShiftedUptoSaid : Prop := unifyShiftedUptoRow.holds Try.pinned (OpenSpec.upto unifyShiftedSpec)

end Rows
end Go.Proofs.Ytipakghocoddjaa
