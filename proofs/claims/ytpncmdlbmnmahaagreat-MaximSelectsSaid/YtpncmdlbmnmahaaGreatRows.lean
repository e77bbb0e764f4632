/-
  NARROWER THAN 'FOR EVERY INPUT', by the rows' own cells (each row's printed sentence says how): MaximTells: loops · MaximSome: loops · MaximPuts: loops · MaximSelects: loops.
  DERIVED. THE GIVEN ROWS OF THIS SEAT. 4 by the template 'for every input the law returns true; each argument reads behind the call as it read before'; 0 by the template 'total and deterministic' (their statements: YtpncmdlbmnmahaaGreatTotals.lean).
  GIVEN WITH THE SEED: the statements are not yours to turn. If you find one false, say at which input.
  Laid BY PROGRAM, IN A SANDBOX (cutbox-rows.mjs): the forced cells as the released guide's own fill.sh prints them over the translation b2fe717552665442… (all of the seat's roots in one cut). By AI agents, Wed Nov 11 2026. No macro, syntax, notation, axiom, sorry.
-/
import Derived.Test.YtpncmdlbmnmahaaGreatChecked
import GoSem.Claim
import GoSem.ClaimJoined
import GoSem.ClaimMapViews
import Derived.JoinedTies
import Derived.KernelRfl
namespace Go.Proofs.YtpncmdlbmnmahaaGreat
/- THE CELL 'sum', in the pinned program and in every row, IS THE sha256 OF THE DUMP (.gsa) THAT YtpncmdlbmnmahaaGreatProg.lean LOADS. Nothing in Lean hashes anything: it is a label: what it is worth is what the hold of that sum in a sandbox is worth. -/
noncomputable def Tryz.pinned : Pinned := { name := "ytpncmdlbmnmahaagreat", sum := "b2fe717552665442cd5a31971a2d429f7bb56beaf9963782bfefd953b5b43afc", checked := Tryz.checked }
namespace Rows
def none {H : Type} : Left H := { results := [], args := [] }

/-- 'elenchuslaw11.MaximTells': WHATEVER THE INPUT: true; the input reads as it did. -/
def maximTellsSpec : ChangeSpec := { name := "maximTells", fn := fun _ => fun
  | [d1, d2, d3, d4, d5] => { results := [.lit (.bool true)], args := [d1, d2, d3, d4, d5] }
  | _ => none }
def maximTellsRow : OpenClaim := { program := "ytpncmdlbmnmahaagreat", sum := "b2fe717552665442cd5a31971a2d429f7bb56beaf9963782bfefd953b5b43afc", func := "elenchus/elenchuslaw11.MaximTells", spec := "maximTells", unfollowed := true, recurses := true, loops := true, apart := false }
def MaximTellsSaid : Prop := maximTellsRow.holds Tryz.pinned (OpenSpec.ofChange maximTellsSpec)

/-- ITS FALSE NEIGHBOUR: 'it returns false'. Refute it at one input. -/
def maximTellsWrong : ChangeSpec := { name := "maximTells", fn := fun _ => fun
  | [d1, d2, d3, d4, d5] => { results := [.lit (.bool false)], args := [d1, d2, d3, d4, d5] }
  | _ => none }
def MaximTellsWrongFalsely : Prop := maximTellsRow.holds Tryz.pinned (OpenSpec.ofChange maximTellsWrong)

/-- 'elenchuslaw11.MaximSome': WHATEVER THE INPUT: true; the input reads as it did. -/
def maximSomeSpec : ChangeSpec := { name := "maximSome", fn := fun _ => fun
  | [d1, d2] => { results := [.lit (.bool true)], args := [d1, d2] }
  | _ => none }
def maximSomeRow : OpenClaim := { program := "ytpncmdlbmnmahaagreat", sum := "b2fe717552665442cd5a31971a2d429f7bb56beaf9963782bfefd953b5b43afc", func := "elenchus/elenchuslaw11.MaximSome", spec := "maximSome", unfollowed := true, recurses := true, loops := true, apart := false }
def MaximSomeSaid : Prop := maximSomeRow.holds Tryz.pinned (OpenSpec.ofChange maximSomeSpec)

/-- ITS FALSE NEIGHBOUR: 'it returns false'. Refute it at one input. -/
def maximSomeWrong : ChangeSpec := { name := "maximSome", fn := fun _ => fun
  | [d1, d2] => { results := [.lit (.bool false)], args := [d1, d2] }
  | _ => none }
def MaximSomeWrongFalsely : Prop := maximSomeRow.holds Tryz.pinned (OpenSpec.ofChange maximSomeWrong)

/-- 'elenchuslaw11.MaximPuts': WHATEVER THE INPUT: true; the input reads as it did. -/
def maximPutsSpec : ChangeSpec := { name := "maximPuts", fn := fun _ => fun
  | [d1, d2, d3, d4] => { results := [.lit (.bool true)], args := [d1, d2, d3, d4] }
  | _ => none }
def maximPutsRow : OpenClaim := { program := "ytpncmdlbmnmahaagreat", sum := "b2fe717552665442cd5a31971a2d429f7bb56beaf9963782bfefd953b5b43afc", func := "elenchus/elenchuslaw11.MaximPuts", spec := "maximPuts", unfollowed := true, recurses := true, loops := true, apart := false }
def MaximPutsSaid : Prop := maximPutsRow.holds Tryz.pinned (OpenSpec.ofChange maximPutsSpec)

/-- ITS FALSE NEIGHBOUR: 'it returns false'. Refute it at one input. -/
def maximPutsWrong : ChangeSpec := { name := "maximPuts", fn := fun _ => fun
  | [d1, d2, d3, d4] => { results := [.lit (.bool false)], args := [d1, d2, d3, d4] }
  | _ => none }
def MaximPutsWrongFalsely : Prop := maximPutsRow.holds Tryz.pinned (OpenSpec.ofChange maximPutsWrong)

/-- 'elenchuslaw11.MaximSelects': WHATEVER THE INPUT: true; the input reads as it did. -/
def maximSelectsSpec : ChangeSpec := { name := "maximSelects", fn := fun _ => fun
  | [d1, d2, d3, d4] => { results := [.lit (.bool true)], args := [d1, d2, d3, d4] }
  | _ => none }
def maximSelectsRow : OpenClaim := { program := "ytpncmdlbmnmahaagreat", sum := "b2fe717552665442cd5a31971a2d429f7bb56beaf9963782bfefd953b5b43afc", func := "elenchus/elenchuslaw11.MaximSelects", spec := "maximSelects", unfollowed := true, recurses := true, loops := true, apart := false }
def MaximSelectsSaid : Prop := maximSelectsRow.holds Tryz.pinned (OpenSpec.ofChange maximSelectsSpec)

/-- ITS FALSE NEIGHBOUR: 'it returns false'. Refute it at one input. -/
def maximSelectsWrong : ChangeSpec := { name := "maximSelects", fn := fun _ => fun
  | [d1, d2, d3, d4] => { results := [.lit (.bool false)], args := [d1, d2, d3, d4] }
  | _ => none }
def MaximSelectsWrongFalsely : Prop := maximSelectsRow.holds Tryz.pinned (OpenSpec.ofChange maximSelectsWrong)

/- THE SECOND FORM. 'bulk': how many values and letters a reading holds, each counted each time it is reached (what is shared counts as often as it is met; a slice's spare places count too). A statement '..UptoSaid' is the law's where the arguments, and the package variables that the reading takes, are together of bulk at most 1048576: NARROWER than '..Said'. Prove '..Said' where nothing that the law and all that it calls make is longer than what came in: it says more and counts as full. Else prove '..UptoSaid'. A law counts once. -/
mutual
def uptoBulk {H : Type} : DataW H → Nat
  | .lit (.string bytes) => bytes.length + 1
  | .lit _ => 1
  | .nil => 1
  | .ptr d => uptoBulk d + 1
  | .slice elems spare => uptoBulkAll elems + uptoBulkAll spare + 1
  | .agg parts => uptoBulkAll parts + 1
  | .iface _ d => uptoBulk d + 1
  | .map entries => uptoBulkEntries entries + 1
  | .held _ => 1
def uptoBulkAll {H : Type} : List (DataW H) → Nat
  | [] => 0
  | d :: r => uptoBulk d + uptoBulkAll r
def uptoBulkEntries {H : Type} : List (Lit × DataW H) → Nat
  | [] => 0
  | x :: r => uptoBulkEntry x + uptoBulkEntries r
def uptoBulkEntry {H : Type} : Lit × DataW H → Nat
  | (.string bytes, d) => bytes.length + uptoBulk d + 1
  | (_, d) => uptoBulk d + 1
 end
def uptoSmall : (H : Type) → List (DataW H) → Bool := fun _ ds => decide (uptoBulkAll ds ≤ 1048576)
def OpenSpec.upto (s : _root_.Go.ChangeSpec) : _root_.Go.OpenSpec := { _root_.Go.OpenSpec.ofChange s with cond := some uptoSmall }

/-- 'elenchuslaw11.MaximTells', WHERE WHAT IT READS IS OF BULK AT MOST 1048576: true; the input reads as it did. -/
def maximTellsUptoRow : OpenClaim := { program := "ytpncmdlbmnmahaagreat", sum := "b2fe717552665442cd5a31971a2d429f7bb56beaf9963782bfefd953b5b43afc", func := "elenchus/elenchuslaw11.MaximTells", spec := "maximTells", unfollowed := true, recurses := true, loops := true, apart := false, narrowed := true }
def MaximTellsUptoSaid : Prop := maximTellsUptoRow.holds Tryz.pinned (OpenSpec.upto maximTellsSpec)

/-- 'elenchuslaw11.MaximSome', WHERE WHAT IT READS IS OF BULK AT MOST 1048576: true; the input reads as it did. -/
def maximSomeUptoRow : OpenClaim := { program := "ytpncmdlbmnmahaagreat", sum := "b2fe717552665442cd5a31971a2d429f7bb56beaf9963782bfefd953b5b43afc", func := "elenchus/elenchuslaw11.MaximSome", spec := "maximSome", unfollowed := true, recurses := true, loops := true, apart := false, narrowed := true }
def MaximSomeUptoSaid : Prop := maximSomeUptoRow.holds Tryz.pinned (OpenSpec.upto maximSomeSpec)

/-- 'elenchuslaw11.MaximPuts', WHERE WHAT IT READS IS OF BULK AT MOST 1048576: true; the input reads as it did. -/
def maximPutsUptoRow : OpenClaim := { program := "ytpncmdlbmnmahaagreat", sum := "b2fe717552665442cd5a31971a2d429f7bb56beaf9963782bfefd953b5b43afc", func := "elenchus/elenchuslaw11.MaximPuts", spec := "maximPuts", unfollowed := true, recurses := true, loops := true, apart := false, narrowed := true }
def MaximPutsUptoSaid : Prop := maximPutsUptoRow.holds Tryz.pinned (OpenSpec.upto maximPutsSpec)

/-- 'elenchuslaw11.MaximSelects', WHERE WHAT IT READS IS OF BULK AT MOST 1048576: true; the input reads as it did. -/
def maximSelectsUptoRow : OpenClaim := { program := "ytpncmdlbmnmahaagreat", sum := "b2fe717552665442cd5a31971a2d429f7bb56beaf9963782bfefd953b5b43afc", func := "elenchus/elenchuslaw11.MaximSelects", spec := "maximSelects", unfollowed := true, recurses := true, loops := true, apart := false, narrowed := true }
def MaximSelectsUptoSaid : Prop := maximSelectsUptoRow.holds Tryz.pinned (OpenSpec.upto maximSelectsSpec)

end Rows
end Go.Proofs.YtpncmdlbmnmahaaGreat
