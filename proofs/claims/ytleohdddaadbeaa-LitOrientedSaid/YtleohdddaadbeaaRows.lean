/-
  NARROWER THAN 'FOR EVERY INPUT', by the rows' own cells (each row's printed sentence says how): LitDoes: loops · LitOrder: loops · LitOriented: loops · LitHolds: loops.
  DERIVED. THE GIVEN ROWS OF THIS SEAT. 4 by the template 'for every input the law returns true; each argument reads behind the call as it read before'; 0 by the template 'total and deterministic' (their statements: YtleohdddaadbeaaTotals.lean).
  GIVEN WITH THE SEED: the statements are not yours to turn. If you find one false, say at which input.
  Laid BY PROGRAM, IN A SANDBOX (cutbox-rows.mjs): the forced cells as the released guide's own fill.sh prints them over the translation 27026b6f87675cd7… (all of the seat's roots in one cut). By AI agents, Wed Nov 11 2026. No macro, syntax, notation, axiom, sorry.
-/
import Derived.Test.YtleohdddaadbeaaChecked
import GoSem.Claim
import GoSem.ClaimJoined
import GoSem.ClaimMapViews
import Derived.JoinedTies
import Derived.KernelRfl
namespace Go.Proofs.Ytleohdddaadbeaa
/- THE CELL 'sum', in the pinned program and in every row, IS THE sha256 OF THE DUMP (.gsa) THAT YtleohdddaadbeaaProg.lean LOADS. Nothing in Lean hashes anything: it is a label: what it is worth is what the hold of that sum in a sandbox is worth. -/
noncomputable def Try.pinned : Pinned := { name := "ytleohdddaadbeaa", sum := "27026b6f87675cd7ece53b4f1b34d8b052cd5728debe634b4f93cd2d80f3840f", checked := Try.checked }
namespace Rows
def none {H : Type} : Left H := { results := [], args := [] }

/-- 'elenchuslaw09.LitDoes': WHATEVER THE INPUT: true; the input reads as it did. -/
def litDoesSpec : ChangeSpec := { name := "litDoes", fn := fun _ => fun
  | [d1, d2, d3, d4] => { results := [.lit (.bool true)], args := [d1, d2, d3, d4] }
  | _ => none }
def litDoesRow : OpenClaim := { program := "ytleohdddaadbeaa", sum := "27026b6f87675cd7ece53b4f1b34d8b052cd5728debe634b4f93cd2d80f3840f", func := "elenchus/elenchuslaw09.LitDoes", spec := "litDoes", unfollowed := true, recurses := true, loops := true, apart := false }
def LitDoesSaid : Prop := litDoesRow.holds Try.pinned (OpenSpec.ofChange litDoesSpec)

/-- ITS FALSE NEIGHBOUR: 'it returns false'. Refute it at one input. -/
def litDoesWrong : ChangeSpec := { name := "litDoes", fn := fun _ => fun
  | [d1, d2, d3, d4] => { results := [.lit (.bool false)], args := [d1, d2, d3, d4] }
  | _ => none }
def LitDoesWrongFalsely : Prop := litDoesRow.holds Try.pinned (OpenSpec.ofChange litDoesWrong)

/-- 'elenchuslaw09.LitOrder': WHATEVER THE INPUT: true; the input reads as it did. -/
def litOrderSpec : ChangeSpec := { name := "litOrder", fn := fun _ => fun
  | [d1, d2, d3, d4] => { results := [.lit (.bool true)], args := [d1, d2, d3, d4] }
  | _ => none }
def litOrderRow : OpenClaim := { program := "ytleohdddaadbeaa", sum := "27026b6f87675cd7ece53b4f1b34d8b052cd5728debe634b4f93cd2d80f3840f", func := "elenchus/elenchuslaw09.LitOrder", spec := "litOrder", unfollowed := true, recurses := true, loops := true, apart := false }
def LitOrderSaid : Prop := litOrderRow.holds Try.pinned (OpenSpec.ofChange litOrderSpec)

/-- ITS FALSE NEIGHBOUR: 'it returns false'. Refute it at one input. -/
def litOrderWrong : ChangeSpec := { name := "litOrder", fn := fun _ => fun
  | [d1, d2, d3, d4] => { results := [.lit (.bool false)], args := [d1, d2, d3, d4] }
  | _ => none }
def LitOrderWrongFalsely : Prop := litOrderRow.holds Try.pinned (OpenSpec.ofChange litOrderWrong)

/-- 'elenchuslaw09.LitOriented': WHATEVER THE INPUT: true; the input reads as it did. -/
def litOrientedSpec : ChangeSpec := { name := "litOriented", fn := fun _ => fun
  | [d1, d2] => { results := [.lit (.bool true)], args := [d1, d2] }
  | _ => none }
def litOrientedRow : OpenClaim := { program := "ytleohdddaadbeaa", sum := "27026b6f87675cd7ece53b4f1b34d8b052cd5728debe634b4f93cd2d80f3840f", func := "elenchus/elenchuslaw09.LitOriented", spec := "litOriented", unfollowed := true, recurses := true, loops := true, apart := false }
def LitOrientedSaid : Prop := litOrientedRow.holds Try.pinned (OpenSpec.ofChange litOrientedSpec)

/-- ITS FALSE NEIGHBOUR: 'it returns false'. Refute it at one input. -/
def litOrientedWrong : ChangeSpec := { name := "litOriented", fn := fun _ => fun
  | [d1, d2] => { results := [.lit (.bool false)], args := [d1, d2] }
  | _ => none }
def LitOrientedWrongFalsely : Prop := litOrientedRow.holds Try.pinned (OpenSpec.ofChange litOrientedWrong)

/-- 'elenchuslaw09.LitHolds': WHATEVER THE INPUT: true; the input reads as it did. -/
def litHoldsSpec : ChangeSpec := { name := "litHolds", fn := fun _ => fun
  | [d1, d2, d3, d4, d5] => { results := [.lit (.bool true)], args := [d1, d2, d3, d4, d5] }
  | _ => none }
def litHoldsRow : OpenClaim := { program := "ytleohdddaadbeaa", sum := "27026b6f87675cd7ece53b4f1b34d8b052cd5728debe634b4f93cd2d80f3840f", func := "elenchus/elenchuslaw09.LitHolds", spec := "litHolds", unfollowed := true, recurses := true, loops := true, apart := false }
def LitHoldsSaid : Prop := litHoldsRow.holds Try.pinned (OpenSpec.ofChange litHoldsSpec)

/-- ITS FALSE NEIGHBOUR: 'it returns false'. Refute it at one input. -/
def litHoldsWrong : ChangeSpec := { name := "litHolds", fn := fun _ => fun
  | [d1, d2, d3, d4, d5] => { results := [.lit (.bool false)], args := [d1, d2, d3, d4, d5] }
  | _ => none }
def LitHoldsWrongFalsely : Prop := litHoldsRow.holds Try.pinned (OpenSpec.ofChange litHoldsWrong)

/- THE SECOND FORM. 'bulk': how many values and letters a reading holds, each counted each time it is reached (what is shared counts as often as it is met; a slice's spare places count too). A statement '..UptoSaid' is the law's where the arguments, and the package variables that the reading takes, are together of bulk at most 1048576: NARROWER than '..Said'. Prove '..Said' where nothing that the law and all that it calls make is longer than what came in: it says more and counts as full. Else prove '..UptoSaid'. A law counts once. -/
mutual
def uptoBulk {H : Type} : DataW H → Nat
  | .lit (.string bytes) => bytes.length + 1
  | .lit _ => 1
  | .nil => 1
  | .ptr d => uptoBulk d + 1
  | .slice elems spare => uptoBulkAll elems + uptoBulkAll spare + 1
  | .agg parts => uptoBulkAll parts + 1
  | .iface _ d => uptoBulk d + 1
  | .map entries => uptoBulkEntries entries + 1
  | .held _ => 1
def uptoBulkAll {H : Type} : List (DataW H) → Nat
  | [] => 0
  | d :: r => uptoBulk d + uptoBulkAll r
def uptoBulkEntries {H : Type} : List (Lit × DataW H) → Nat
  | [] => 0
  | x :: r => uptoBulkEntry x + uptoBulkEntries r
def uptoBulkEntry {H : Type} : Lit × DataW H → Nat
  | (.string bytes, d) => bytes.length + uptoBulk d + 1
  | (_, d) => uptoBulk d + 1
 end
def uptoSmall : (H : Type) → List (DataW H) → Bool := fun _ ds => decide (uptoBulkAll ds ≤ 1048576)
def OpenSpec.upto (s : _root_.Go.ChangeSpec) : _root_.Go.OpenSpec := { _root_.Go.OpenSpec.ofChange s with cond := some uptoSmall }

/-- 'elenchuslaw09.LitDoes', WHERE WHAT IT READS IS OF BULK AT MOST 1048576: true; the input reads as it did. -/
def litDoesUptoRow : OpenClaim := { program := "ytleohdddaadbeaa", sum := "27026b6f87675cd7ece53b4f1b34d8b052cd5728debe634b4f93cd2d80f3840f", func := "elenchus/elenchuslaw09.LitDoes", spec := "litDoes", unfollowed := true, recurses := true, loops := true, apart := false, narrowed := true }
def LitDoesUptoSaid : Prop := litDoesUptoRow.holds Try.pinned (OpenSpec.upto litDoesSpec)

/-- 'elenchuslaw09.LitOrder', WHERE WHAT IT READS IS OF BULK AT MOST 1048576: true; the input reads as it did. -/
def litOrderUptoRow : OpenClaim := { program := "ytleohdddaadbeaa", sum := "27026b6f87675cd7ece53b4f1b34d8b052cd5728debe634b4f93cd2d80f3840f", func := "elenchus/elenchuslaw09.LitOrder", spec := "litOrder", unfollowed := true, recurses := true, loops := true, apart := false, narrowed := true }
def LitOrderUptoSaid : Prop := litOrderUptoRow.holds Try.pinned (OpenSpec.upto litOrderSpec)

/-- 'elenchuslaw09.LitOriented', WHERE WHAT IT READS IS OF BULK AT MOST 1048576: true; the input reads as it did. -/
def litOrientedUptoRow : OpenClaim := { program := "ytleohdddaadbeaa", sum := "27026b6f87675cd7ece53b4f1b34d8b052cd5728debe634b4f93cd2d80f3840f", func := "elenchus/elenchuslaw09.LitOriented", spec := "litOriented", unfollowed := true, recurses := true, loops := true, apart := false, narrowed := true }
def LitOrientedUptoSaid : Prop := litOrientedUptoRow.holds Try.pinned (OpenSpec.upto litOrientedSpec)

/-- 'elenchuslaw09.LitHolds', WHERE WHAT IT READS IS OF BULK AT MOST 1048576: true; the input reads as it did. -/
def litHoldsUptoRow : OpenClaim := { program := "ytleohdddaadbeaa", sum := "27026b6f87675cd7ece53b4f1b34d8b052cd5728debe634b4f93cd2d80f3840f", func := "elenchus/elenchuslaw09.LitHolds", spec := "litHolds", unfollowed := true, recurses := true, loops := true, apart := false, narrowed := true }
def LitHoldsUptoSaid : Prop := litHoldsUptoRow.holds Try.pinned (OpenSpec.upto litHoldsSpec)

end Rows
end Go.Proofs.Ytleohdddaadbeaa
