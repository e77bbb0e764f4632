/-
  NARROWER THAN 'FOR EVERY INPUT', by the rows' own cells (each row's printed sentence says how): ClausePairs: loops · ClauseOrder: loops · ClauseGround: loops.
  DERIVED. THE GIVEN ROWS OF THIS SEAT. 3 by the template 'for every input the law returns true; each argument reads behind the call as it read before'; 0 by the template 'total and deterministic' (their statements: YtbdabdjpgmnejaaGreatTotals.lean).
  GIVEN WITH THE SEED: the statements are not yours to turn. If you find one false, say at which input.
  Laid BY PROGRAM, IN A SANDBOX (cutbox-rows.mjs): the forced cells as the released guide's own fill.sh prints them over the translation f9d2a8e39028fddb… (all of the seat's roots in one cut). By AI agents, Wed Nov 11 2026. No macro, syntax, notation, axiom, sorry.
-/
import Derived.Test.YtbdabdjpgmnejaaGreatChecked
import GoSem.Claim
import GoSem.ClaimJoined
import GoSem.ClaimMapViews
import Derived.JoinedTies
import Derived.KernelRfl
namespace Go.Proofs.YtbdabdjpgmnejaaGreat
/- THE CELL 'sum', in the pinned program and in every row, IS THE sha256 OF THE DUMP (.gsa) THAT YtbdabdjpgmnejaaGreatProg.lean LOADS. Nothing in Lean hashes anything: it is a label: what it is worth is what the hold of that sum in a sandbox is worth. -/
noncomputable def Tryz.pinned : Pinned := { name := "ytbdabdjpgmnejaagreat", sum := "f9d2a8e39028fddbd57b2f6bb11166c6a2c970f825be7316eb0dc27faca05f99", checked := Tryz.checked }
namespace Rows
def none {H : Type} : Left H := { results := [], args := [] }

/-- 'elenchuslaw10.ClausePairs': WHATEVER THE INPUT: true; the input reads as it did. -/
def clausePairsSpec : ChangeSpec := { name := "clausePairs", fn := fun _ => fun
  | [d1, d2, d3] => { results := [.lit (.bool true)], args := [d1, d2, d3] }
  | _ => none }
def clausePairsRow : OpenClaim := { program := "ytbdabdjpgmnejaagreat", sum := "f9d2a8e39028fddbd57b2f6bb11166c6a2c970f825be7316eb0dc27faca05f99", func := "elenchus/elenchuslaw10.ClausePairs", spec := "clausePairs", unfollowed := true, recurses := true, loops := true, apart := false }
def ClausePairsSaid : Prop := clausePairsRow.holds Tryz.pinned (OpenSpec.ofChange clausePairsSpec)

/-- ITS FALSE NEIGHBOUR: 'it returns false'. Refute it at one input. -/
def clausePairsWrong : ChangeSpec := { name := "clausePairs", fn := fun _ => fun
  | [d1, d2, d3] => { results := [.lit (.bool false)], args := [d1, d2, d3] }
  | _ => none }
def ClausePairsWrongFalsely : Prop := clausePairsRow.holds Tryz.pinned (OpenSpec.ofChange clausePairsWrong)

/-- 'elenchuslaw10.ClauseOrder': WHATEVER THE INPUT: true; the input reads as it did. -/
def clauseOrderSpec : ChangeSpec := { name := "clauseOrder", fn := fun _ => fun
  | [d1, d2, d3, d4, d5] => { results := [.lit (.bool true)], args := [d1, d2, d3, d4, d5] }
  | _ => none }
def clauseOrderRow : OpenClaim := { program := "ytbdabdjpgmnejaagreat", sum := "f9d2a8e39028fddbd57b2f6bb11166c6a2c970f825be7316eb0dc27faca05f99", func := "elenchus/elenchuslaw10.ClauseOrder", spec := "clauseOrder", unfollowed := true, recurses := true, loops := true, apart := false }
def ClauseOrderSaid : Prop := clauseOrderRow.holds Tryz.pinned (OpenSpec.ofChange clauseOrderSpec)

/-- ITS FALSE NEIGHBOUR: 'it returns false'. Refute it at one input. -/
def clauseOrderWrong : ChangeSpec := { name := "clauseOrder", fn := fun _ => fun
  | [d1, d2, d3, d4, d5] => { results := [.lit (.bool false)], args := [d1, d2, d3, d4, d5] }
  | _ => none }
def ClauseOrderWrongFalsely : Prop := clauseOrderRow.holds Tryz.pinned (OpenSpec.ofChange clauseOrderWrong)

/-- 'elenchuslaw10.ClauseGround': WHATEVER THE INPUT: true; the input reads as it did. -/
def clauseGroundSpec : ChangeSpec := { name := "clauseGround", fn := fun _ => fun
  | [d1, d2, d3] => { results := [.lit (.bool true)], args := [d1, d2, d3] }
  | _ => none }
def clauseGroundRow : OpenClaim := { program := "ytbdabdjpgmnejaagreat", sum := "f9d2a8e39028fddbd57b2f6bb11166c6a2c970f825be7316eb0dc27faca05f99", func := "elenchus/elenchuslaw10.ClauseGround", spec := "clauseGround", unfollowed := true, recurses := true, loops := true, apart := false }
def ClauseGroundSaid : Prop := clauseGroundRow.holds Tryz.pinned (OpenSpec.ofChange clauseGroundSpec)

/-- ITS FALSE NEIGHBOUR: 'it returns false'. Refute it at one input. -/
def clauseGroundWrong : ChangeSpec := { name := "clauseGround", fn := fun _ => fun
  | [d1, d2, d3] => { results := [.lit (.bool false)], args := [d1, d2, d3] }
  | _ => none }
def ClauseGroundWrongFalsely : Prop := clauseGroundRow.holds Tryz.pinned (OpenSpec.ofChange clauseGroundWrong)

/- THE SECOND FORM. 'bulk': how many values and letters a reading holds, each counted each time it is reached (what is shared counts as often as it is met; a slice's spare places count too). A statement '..UptoSaid' is the law's where the arguments, and the package variables that the reading takes, are together of bulk at most 1048576: NARROWER than '..Said'. Prove '..Said' where nothing that the law and all that it calls make is longer than what came in: it says more and counts as full. Else prove '..UptoSaid'. A law counts once. -/
mutual
def uptoBulk {H : Type} : DataW H → Nat
  | .lit (.string bytes) => bytes.length + 1
  | .lit _ => 1
  | .nil => 1
  | .ptr d => uptoBulk d + 1
  | .slice elems spare => uptoBulkAll elems + uptoBulkAll spare + 1
  | .agg parts => uptoBulkAll parts + 1
  | .iface _ d => uptoBulk d + 1
  | .map entries => uptoBulkEntries entries + 1
  | .held _ => 1
def uptoBulkAll {H : Type} : List (DataW H) → Nat
  | [] => 0
  | d :: r => uptoBulk d + uptoBulkAll r
def uptoBulkEntries {H : Type} : List (Lit × DataW H) → Nat
  | [] => 0
  | x :: r => uptoBulkEntry x + uptoBulkEntries r
def uptoBulkEntry {H : Type} : Lit × DataW H → Nat
  | (.string bytes, d) => bytes.length + uptoBulk d + 1
  | (_, d) => uptoBulk d + 1
 end
def uptoSmall : (H : Type) → List (DataW H) → Bool := fun _ ds => decide (uptoBulkAll ds ≤ 1048576)
def OpenSpec.upto (s : _root_.Go.ChangeSpec) : _root_.Go.OpenSpec := { _root_.Go.OpenSpec.ofChange s with cond := some uptoSmall }

/-- 'elenchuslaw10.ClausePairs', WHERE WHAT IT READS IS OF BULK AT MOST 1048576: true; the input reads as it did. -/
def clausePairsUptoRow : OpenClaim := { program := "ytbdabdjpgmnejaagreat", sum := "f9d2a8e39028fddbd57b2f6bb11166c6a2c970f825be7316eb0dc27faca05f99", func := "elenchus/elenchuslaw10.ClausePairs", spec := "clausePairs", unfollowed := true, recurses := true, loops := true, apart := false, narrowed := true }
def ClausePairsUptoSaid : Prop := clausePairsUptoRow.holds Tryz.pinned (OpenSpec.upto clausePairsSpec)

/-- 'elenchuslaw10.ClauseOrder', WHERE WHAT IT READS IS OF BULK AT MOST 1048576: true; the input reads as it did. -/
def clauseOrderUptoRow : OpenClaim := { program := "ytbdabdjpgmnejaagreat", sum := "f9d2a8e39028fddbd57b2f6bb11166c6a2c970f825be7316eb0dc27faca05f99", func := "elenchus/elenchuslaw10.ClauseOrder", spec := "clauseOrder", unfollowed := true, recurses := true, loops := true, apart := false, narrowed := true }
def ClauseOrderUptoSaid : Prop := clauseOrderUptoRow.holds Tryz.pinned (OpenSpec.upto clauseOrderSpec)

/-- 'elenchuslaw10.ClauseGround', WHERE WHAT IT READS IS OF BULK AT MOST 1048576: true; the input reads as it did. -/
def clauseGroundUptoRow : OpenClaim := { program := "ytbdabdjpgmnejaagreat", sum := "f9d2a8e39028fddbd57b2f6bb11166c6a2c970f825be7316eb0dc27faca05f99", func := "elenchus/elenchuslaw10.ClauseGround", spec := "clauseGround", unfollowed := true, recurses := true, loops := true, apart := false, narrowed := true }
def ClauseGroundUptoSaid : Prop := clauseGroundUptoRow.holds Tryz.pinned (OpenSpec.upto clauseGroundSpec)

end Rows
end Go.Proofs.YtbdabdjpgmnejaaGreat
