/-
  NARROWER THAN 'FOR EVERY INPUT', by the rows' own cells (each row's printed sentence says how): ResolveEqual: loops · ResolveFactor: loops · ResolveHolds: loops · ResolveMade: loops.
  DERIVED. THE GIVEN ROWS OF THIS SEAT. 4 by the template 'for every input the law returns true; each argument reads behind the call as it read before'; 0 by the template 'total and deterministic' (their statements: YtabfapijgfjflaaGreatTotals.lean).
  GIVEN WITH THE SEED: the statements are not yours to turn. If you find one false, say at which input.
  Laid BY PROGRAM, IN A SANDBOX (cutbox-rows.mjs): the forced cells as the released guide's own fill.sh prints them over the translation 49e257712c81bdb0… (all of the seat's roots in one cut). By AI agents, Wed Nov 11 2026. No macro, syntax, notation, axiom, sorry.
-/
import Derived.Test.YtabfapijgfjflaaGreatChecked
import GoSem.Claim
import GoSem.ClaimJoined
import GoSem.ClaimMapViews
import Derived.JoinedTies
import Derived.KernelRfl
namespace Go.Proofs.YtabfapijgfjflaaGreat
/- THE CELL 'sum', in the pinned program and in every row, IS THE sha256 OF THE DUMP (.gsa) THAT YtabfapijgfjflaaGreatProg.lean LOADS. Nothing in Lean hashes anything: it is a label: what it is worth is what the hold of that sum in a sandbox is worth. -/
noncomputable def Tryz.pinned : Pinned := { name := "ytabfapijgfjflaagreat", sum := "49e257712c81bdb003d9dfd74bbd8395f6b565d6ca1af85e2f5504f623225b9b", checked := Tryz.checked }
namespace Rows
def none {H : Type} : Left H := { results := [], args := [] }

/-- 'elenchuslaw12.ResolveEqual': WHATEVER THE INPUT: true; the input reads as it did. -/
def resolveEqualSpec : ChangeSpec := { name := "resolveEqual", fn := fun _ => fun
  | [d1, d2, d3] => { results := [.lit (.bool true)], args := [d1, d2, d3] }
  | _ => none }
def resolveEqualRow : OpenClaim := { program := "ytabfapijgfjflaagreat", sum := "49e257712c81bdb003d9dfd74bbd8395f6b565d6ca1af85e2f5504f623225b9b", func := "elenchus/elenchuslaw12.ResolveEqual", spec := "resolveEqual", unfollowed := true, recurses := true, loops := true, apart := false }
def ResolveEqualSaid : Prop := resolveEqualRow.holds Tryz.pinned (OpenSpec.ofChange resolveEqualSpec)

/-- ITS FALSE NEIGHBOUR: 'it returns false'. Refute it at one input. -/
def resolveEqualWrong : ChangeSpec := { name := "resolveEqual", fn := fun _ => fun
  | [d1, d2, d3] => { results := [.lit (.bool false)], args := [d1, d2, d3] }
  | _ => none }
def ResolveEqualWrongFalsely : Prop := resolveEqualRow.holds Tryz.pinned (OpenSpec.ofChange resolveEqualWrong)

/-- 'elenchuslaw12.ResolveFactor': WHATEVER THE INPUT: true; the input reads as it did. -/
def resolveFactorSpec : ChangeSpec := { name := "resolveFactor", fn := fun _ => fun
  | [d1, d2, d3] => { results := [.lit (.bool true)], args := [d1, d2, d3] }
  | _ => none }
def resolveFactorRow : OpenClaim := { program := "ytabfapijgfjflaagreat", sum := "49e257712c81bdb003d9dfd74bbd8395f6b565d6ca1af85e2f5504f623225b9b", func := "elenchus/elenchuslaw12.ResolveFactor", spec := "resolveFactor", unfollowed := true, recurses := true, loops := true, apart := false }
def ResolveFactorSaid : Prop := resolveFactorRow.holds Tryz.pinned (OpenSpec.ofChange resolveFactorSpec)

/-- ITS FALSE NEIGHBOUR: 'it returns false'. Refute it at one input. -/
def resolveFactorWrong : ChangeSpec := { name := "resolveFactor", fn := fun _ => fun
  | [d1, d2, d3] => { results := [.lit (.bool false)], args := [d1, d2, d3] }
  | _ => none }
def ResolveFactorWrongFalsely : Prop := resolveFactorRow.holds Tryz.pinned (OpenSpec.ofChange resolveFactorWrong)

/-- 'elenchuslaw12.ResolveHolds': WHATEVER THE INPUT: true; the input reads as it did. -/
def resolveHoldsSpec : ChangeSpec := { name := "resolveHolds", fn := fun _ => fun
  | [d1, d2, d3, d4] => { results := [.lit (.bool true)], args := [d1, d2, d3, d4] }
  | _ => none }
def resolveHoldsRow : OpenClaim := { program := "ytabfapijgfjflaagreat", sum := "49e257712c81bdb003d9dfd74bbd8395f6b565d6ca1af85e2f5504f623225b9b", func := "elenchus/elenchuslaw12.ResolveHolds", spec := "resolveHolds", unfollowed := true, recurses := true, loops := true, apart := false }
def ResolveHoldsSaid : Prop := resolveHoldsRow.holds Tryz.pinned (OpenSpec.ofChange resolveHoldsSpec)

/-- ITS FALSE NEIGHBOUR: 'it returns false'. Refute it at one input. -/
def resolveHoldsWrong : ChangeSpec := { name := "resolveHolds", fn := fun _ => fun
  | [d1, d2, d3, d4] => { results := [.lit (.bool false)], args := [d1, d2, d3, d4] }
  | _ => none }
def ResolveHoldsWrongFalsely : Prop := resolveHoldsRow.holds Tryz.pinned (OpenSpec.ofChange resolveHoldsWrong)

/-- 'elenchuslaw12.ResolveMade': WHATEVER THE INPUT: true; the input reads as it did. -/
def resolveMadeSpec : ChangeSpec := { name := "resolveMade", fn := fun _ => fun
  | [d1, d2, d3] => { results := [.lit (.bool true)], args := [d1, d2, d3] }
  | _ => none }
def resolveMadeRow : OpenClaim := { program := "ytabfapijgfjflaagreat", sum := "49e257712c81bdb003d9dfd74bbd8395f6b565d6ca1af85e2f5504f623225b9b", func := "elenchus/elenchuslaw12.ResolveMade", spec := "resolveMade", unfollowed := true, recurses := true, loops := true, apart := false }
def ResolveMadeSaid : Prop := resolveMadeRow.holds Tryz.pinned (OpenSpec.ofChange resolveMadeSpec)

/-- ITS FALSE NEIGHBOUR: 'it returns false'. Refute it at one input. -/
def resolveMadeWrong : ChangeSpec := { name := "resolveMade", fn := fun _ => fun
  | [d1, d2, d3] => { results := [.lit (.bool false)], args := [d1, d2, d3] }
  | _ => none }
def ResolveMadeWrongFalsely : Prop := resolveMadeRow.holds Tryz.pinned (OpenSpec.ofChange resolveMadeWrong)

/- THE SECOND FORM. 'bulk': how many values and letters a reading holds, each counted each time it is reached (what is shared counts as often as it is met; a slice's spare places count too). A statement '..UptoSaid' is the law's where the arguments, and the package variables that the reading takes, are together of bulk at most 1048576: NARROWER than '..Said'. Prove '..Said' where nothing that the law and all that it calls make is longer than what came in: it says more and counts as full. Else prove '..UptoSaid'. A law counts once. -/
mutual
def uptoBulk {H : Type} : DataW H → Nat
  | .lit (.string bytes) => bytes.length + 1
  | .lit _ => 1
  | .nil => 1
  | .ptr d => uptoBulk d + 1
  | .slice elems spare => uptoBulkAll elems + uptoBulkAll spare + 1
  | .agg parts => uptoBulkAll parts + 1
  | .iface _ d => uptoBulk d + 1
  | .map entries => uptoBulkEntries entries + 1
  | .held _ => 1
def uptoBulkAll {H : Type} : List (DataW H) → Nat
  | [] => 0
  | d :: r => uptoBulk d + uptoBulkAll r
def uptoBulkEntries {H : Type} : List (Lit × DataW H) → Nat
  | [] => 0
  | x :: r => uptoBulkEntry x + uptoBulkEntries r
def uptoBulkEntry {H : Type} : Lit × DataW H → Nat
  | (.string bytes, d) => bytes.length + uptoBulk d + 1
  | (_, d) => uptoBulk d + 1
 end
def uptoSmall : (H : Type) → List (DataW H) → Bool := fun _ ds => decide (uptoBulkAll ds ≤ 1048576)
def OpenSpec.upto (s : _root_.Go.ChangeSpec) : _root_.Go.OpenSpec := { _root_.Go.OpenSpec.ofChange s with cond := some uptoSmall }

/-- 'elenchuslaw12.ResolveEqual', WHERE WHAT IT READS IS OF BULK AT MOST 1048576: true; the input reads as it did. -/
def resolveEqualUptoRow : OpenClaim := { program := "ytabfapijgfjflaagreat", sum := "49e257712c81bdb003d9dfd74bbd8395f6b565d6ca1af85e2f5504f623225b9b", func := "elenchus/elenchuslaw12.ResolveEqual", spec := "resolveEqual", unfollowed := true, recurses := true, loops := true, apart := false, narrowed := true }
def ResolveEqualUptoSaid : Prop := resolveEqualUptoRow.holds Tryz.pinned (OpenSpec.upto resolveEqualSpec)

/-- 'elenchuslaw12.ResolveFactor', WHERE WHAT IT READS IS OF BULK AT MOST 1048576: true; the input reads as it did. -/
def resolveFactorUptoRow : OpenClaim := { program := "ytabfapijgfjflaagreat", sum := "49e257712c81bdb003d9dfd74bbd8395f6b565d6ca1af85e2f5504f623225b9b", func := "elenchus/elenchuslaw12.ResolveFactor", spec := "resolveFactor", unfollowed := true, recurses := true, loops := true, apart := false, narrowed := true }
def ResolveFactorUptoSaid : Prop := resolveFactorUptoRow.holds Tryz.pinned (OpenSpec.upto resolveFactorSpec)

/-- 'elenchuslaw12.ResolveHolds', WHERE WHAT IT READS IS OF BULK AT MOST 1048576: true; the input reads as it did. -/
def resolveHoldsUptoRow : OpenClaim := { program := "ytabfapijgfjflaagreat", sum := "49e257712c81bdb003d9dfd74bbd8395f6b565d6ca1af85e2f5504f623225b9b", func := "elenchus/elenchuslaw12.ResolveHolds", spec := "resolveHolds", unfollowed := true, recurses := true, loops := true, apart := false, narrowed := true }
def ResolveHoldsUptoSaid : Prop := resolveHoldsUptoRow.holds Tryz.pinned (OpenSpec.upto resolveHoldsSpec)

/-- 'elenchuslaw12.ResolveMade', WHERE WHAT IT READS IS OF BULK AT MOST 1048576: true; the input reads as it did. -/
def resolveMadeUptoRow : OpenClaim := { program := "ytabfapijgfjflaagreat", sum := "49e257712c81bdb003d9dfd74bbd8395f6b565d6ca1af85e2f5504f623225b9b", func := "elenchus/elenchuslaw12.ResolveMade", spec := "resolveMade", unfollowed := true, recurses := true, loops := true, apart := false, narrowed := true }
def ResolveMadeUptoSaid : Prop := resolveMadeUptoRow.holds Tryz.pinned (OpenSpec.upto resolveMadeSpec)

end Rows
end Go.Proofs.YtabfapijgfjflaaGreat
