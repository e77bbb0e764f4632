/-
  NARROWER THAN 'FOR EVERY INPUT', by the rows' own cells (each row's printed sentence says how): TermCompares: loops · PlacePut: loops · SubstDoes: loops · SubstJoins: loops · SubstStays: loops · UnifySides: loops · MatchMakes: loops.
  DERIVED. THE GIVEN ROWS OF THIS SEAT. 7 by the template 'for every input the law returns true; each argument reads behind the call as it read before'; 0 by the template 'total and deterministic' (their statements: YtbljkiodgjgnaaaTotals.lean).
  GIVEN WITH THE SEED: the statements are not yours to turn. If you find one false, say at which input.
  Laid BY PROGRAM, IN A SANDBOX (cutbox-rows.mjs): the forced cells as the released guide's own fill.sh prints them over the translation 78dd5c5056f1ac8b… (all of the seat's roots in one cut). By AI agents, Wed Nov 11 2026. No macro, syntax, notation, axiom, sorry.
-/
import Derived.Test.YtbljkiodgjgnaaaChecked
import GoSem.Claim
import GoSem.ClaimJoined
import GoSem.ClaimMapViews
import Derived.JoinedTies
import Derived.KernelRfl
namespace Go.Proofs.Ytbljkiodgjgnaaa
/- THE CELL 'sum', in the pinned program and in every row, IS THE sha256 OF THE DUMP (.gsa) THAT YtbljkiodgjgnaaaProg.lean LOADS. Nothing in Lean hashes anything: it is a label: what it is worth is what the hold of that sum in a sandbox is worth. -/
noncomputable def Try.pinned : Pinned := { name := "ytbljkiodgjgnaaa", sum := "78dd5c5056f1ac8b76e07e6b0cedb2815a45f74d810ad04344bb8ba333059ca2", checked := Try.checked }
namespace Rows
def none {H : Type} : Left H := { results := [], args := [] }

/-- 'elenchuslaw01.TermCompares': WHATEVER THE INPUT: true; the input reads as it did. -/
def termComparesSpec : ChangeSpec := { name := "termCompares", fn := fun _ => fun
  | [d1, d2] => { results := [.lit (.bool true)], args := [d1, d2] }
  | _ => none }
def termComparesRow : OpenClaim := { program := "ytbljkiodgjgnaaa", sum := "78dd5c5056f1ac8b76e07e6b0cedb2815a45f74d810ad04344bb8ba333059ca2", func := "elenchus/elenchuslaw01.TermCompares", spec := "termCompares", unfollowed := true, recurses := true, loops := true, apart := false }
def TermComparesSaid : Prop := termComparesRow.holds Try.pinned (OpenSpec.ofChange termComparesSpec)

/-- ITS FALSE NEIGHBOUR: 'it returns false'. Refute it at one input. -/
def termComparesWrong : ChangeSpec := { name := "termCompares", fn := fun _ => fun
  | [d1, d2] => { results := [.lit (.bool false)], args := [d1, d2] }
  | _ => none }
def TermComparesWrongFalsely : Prop := termComparesRow.holds Try.pinned (OpenSpec.ofChange termComparesWrong)

/-- 'elenchuslaw02.PlacePut': WHATEVER THE INPUT: true; the input reads as it did. -/
def placePutSpec : ChangeSpec := { name := "placePut", fn := fun _ => fun
  | [d1, d2, d3, d4] => { results := [.lit (.bool true)], args := [d1, d2, d3, d4] }
  | _ => none }
def placePutRow : OpenClaim := { program := "ytbljkiodgjgnaaa", sum := "78dd5c5056f1ac8b76e07e6b0cedb2815a45f74d810ad04344bb8ba333059ca2", func := "elenchus/elenchuslaw02.PlacePut", spec := "placePut", unfollowed := true, recurses := true, loops := true, apart := false }
def PlacePutSaid : Prop := placePutRow.holds Try.pinned (OpenSpec.ofChange placePutSpec)

/-- ITS FALSE NEIGHBOUR: 'it returns false'. Refute it at one input. -/
def placePutWrong : ChangeSpec := { name := "placePut", fn := fun _ => fun
  | [d1, d2, d3, d4] => { results := [.lit (.bool false)], args := [d1, d2, d3, d4] }
  | _ => none }
def PlacePutWrongFalsely : Prop := placePutRow.holds Try.pinned (OpenSpec.ofChange placePutWrong)

/-- 'elenchuslaw03.SubstDoes': WHATEVER THE INPUT: true; the input reads as it did. -/
def substDoesSpec : ChangeSpec := { name := "substDoes", fn := fun _ => fun
  | [d1, d2, d3] => { results := [.lit (.bool true)], args := [d1, d2, d3] }
  | _ => none }
def substDoesRow : OpenClaim := { program := "ytbljkiodgjgnaaa", sum := "78dd5c5056f1ac8b76e07e6b0cedb2815a45f74d810ad04344bb8ba333059ca2", func := "elenchus/elenchuslaw03.SubstDoes", spec := "substDoes", unfollowed := true, recurses := true, loops := true, apart := false }
def SubstDoesSaid : Prop := substDoesRow.holds Try.pinned (OpenSpec.ofChange substDoesSpec)

/-- ITS FALSE NEIGHBOUR: 'it returns false'. Refute it at one input. -/
def substDoesWrong : ChangeSpec := { name := "substDoes", fn := fun _ => fun
  | [d1, d2, d3] => { results := [.lit (.bool false)], args := [d1, d2, d3] }
  | _ => none }
def SubstDoesWrongFalsely : Prop := substDoesRow.holds Try.pinned (OpenSpec.ofChange substDoesWrong)

/-- 'elenchuslaw03.SubstJoins': WHATEVER THE INPUT: true; the input reads as it did. -/
def substJoinsSpec : ChangeSpec := { name := "substJoins", fn := fun _ => fun
  | [d1, d2] => { results := [.lit (.bool true)], args := [d1, d2] }
  | _ => none }
def substJoinsRow : OpenClaim := { program := "ytbljkiodgjgnaaa", sum := "78dd5c5056f1ac8b76e07e6b0cedb2815a45f74d810ad04344bb8ba333059ca2", func := "elenchus/elenchuslaw03.SubstJoins", spec := "substJoins", unfollowed := true, recurses := true, loops := true, apart := false }
def SubstJoinsSaid : Prop := substJoinsRow.holds Try.pinned (OpenSpec.ofChange substJoinsSpec)

/-- ITS FALSE NEIGHBOUR: 'it returns false'. Refute it at one input. -/
def substJoinsWrong : ChangeSpec := { name := "substJoins", fn := fun _ => fun
  | [d1, d2] => { results := [.lit (.bool false)], args := [d1, d2] }
  | _ => none }
def SubstJoinsWrongFalsely : Prop := substJoinsRow.holds Try.pinned (OpenSpec.ofChange substJoinsWrong)

/-- 'elenchuslaw03.SubstStays': WHATEVER THE INPUT: true; the input reads as it did. -/
def substStaysSpec : ChangeSpec := { name := "substStays", fn := fun _ => fun
  | [d1, d2] => { results := [.lit (.bool true)], args := [d1, d2] }
  | _ => none }
def substStaysRow : OpenClaim := { program := "ytbljkiodgjgnaaa", sum := "78dd5c5056f1ac8b76e07e6b0cedb2815a45f74d810ad04344bb8ba333059ca2", func := "elenchus/elenchuslaw03.SubstStays", spec := "substStays", unfollowed := true, recurses := true, loops := true, apart := false }
def SubstStaysSaid : Prop := substStaysRow.holds Try.pinned (OpenSpec.ofChange substStaysSpec)

/-- ITS FALSE NEIGHBOUR: 'it returns false'. Refute it at one input. -/
def substStaysWrong : ChangeSpec := { name := "substStays", fn := fun _ => fun
  | [d1, d2] => { results := [.lit (.bool false)], args := [d1, d2] }
  | _ => none }
def SubstStaysWrongFalsely : Prop := substStaysRow.holds Try.pinned (OpenSpec.ofChange substStaysWrong)

/-- 'elenchuslaw04.UnifySides': WHATEVER THE INPUT: true; the input reads as it did. -/
def unifySidesSpec : ChangeSpec := { name := "unifySides", fn := fun _ => fun
  | [d1, d2, d3] => { results := [.lit (.bool true)], args := [d1, d2, d3] }
  | _ => none }
def unifySidesRow : OpenClaim := { program := "ytbljkiodgjgnaaa", sum := "78dd5c5056f1ac8b76e07e6b0cedb2815a45f74d810ad04344bb8ba333059ca2", func := "elenchus/elenchuslaw04.UnifySides", spec := "unifySides", unfollowed := true, recurses := true, loops := true, apart := false }
def UnifySidesSaid : Prop := unifySidesRow.holds Try.pinned (OpenSpec.ofChange unifySidesSpec)

/-- ITS FALSE NEIGHBOUR: 'it returns false'. Refute it at one input. -/
def unifySidesWrong : ChangeSpec := { name := "unifySides", fn := fun _ => fun
  | [d1, d2, d3] => { results := [.lit (.bool false)], args := [d1, d2, d3] }
  | _ => none }
def UnifySidesWrongFalsely : Prop := unifySidesRow.holds Try.pinned (OpenSpec.ofChange unifySidesWrong)

/-- 'elenchuslaw05.MatchMakes': WHATEVER THE INPUT: true; the input reads as it did. -/
def matchMakesSpec : ChangeSpec := { name := "matchMakes", fn := fun _ => fun
  | [d1, d2] => { results := [.lit (.bool true)], args := [d1, d2] }
  | _ => none }
def matchMakesRow : OpenClaim := { program := "ytbljkiodgjgnaaa", sum := "78dd5c5056f1ac8b76e07e6b0cedb2815a45f74d810ad04344bb8ba333059ca2", func := "elenchus/elenchuslaw05.MatchMakes", spec := "matchMakes", unfollowed := true, recurses := true, loops := true, apart := false }
def MatchMakesSaid : Prop := matchMakesRow.holds Try.pinned (OpenSpec.ofChange matchMakesSpec)

/-- ITS FALSE NEIGHBOUR: 'it returns false'. Refute it at one input. -/
def matchMakesWrong : ChangeSpec := { name := "matchMakes", fn := fun _ => fun
  | [d1, d2] => { results := [.lit (.bool false)], args := [d1, d2] }
  | _ => none }
def MatchMakesWrongFalsely : Prop := matchMakesRow.holds Try.pinned (OpenSpec.ofChange matchMakesWrong)

/- THE SECOND FORM. 'bulk': how many values and letters a reading holds, each counted each time it is reached (what is shared counts as often as it is met; a slice's spare places count too). A statement '..UptoSaid' is the law's where the arguments, and the package variables that the reading takes, are together of bulk at most 1048576: NARROWER than '..Said'. Prove '..Said' where nothing that the law and all that it calls make is longer than what came in: it says more and counts as full. Else prove '..UptoSaid'. A law counts once. -/
mutual
def uptoBulk {H : Type} : DataW H → Nat
  | .lit (.string bytes) => bytes.length + 1
  | .lit _ => 1
  | .nil => 1
  | .ptr d => uptoBulk d + 1
  | .slice elems spare => uptoBulkAll elems + uptoBulkAll spare + 1
  | .agg parts => uptoBulkAll parts + 1
  | .iface _ d => uptoBulk d + 1
  | .map entries => uptoBulkEntries entries + 1
  | .held _ => 1
def uptoBulkAll {H : Type} : List (DataW H) → Nat
  | [] => 0
  | d :: r => uptoBulk d + uptoBulkAll r
def uptoBulkEntries {H : Type} : List (Lit × DataW H) → Nat
  | [] => 0
  | x :: r => uptoBulkEntry x + uptoBulkEntries r
def uptoBulkEntry {H : Type} : Lit × DataW H → Nat
  | (.string bytes, d) => bytes.length + uptoBulk d + 1
  | (_, d) => uptoBulk d + 1
 end
def uptoSmall : (H : Type) → List (DataW H) → Bool := fun _ ds => decide (uptoBulkAll ds ≤ 1048576)
def OpenSpec.upto (s : _root_.Go.ChangeSpec) : _root_.Go.OpenSpec := { _root_.Go.OpenSpec.ofChange s with cond := some uptoSmall }

/-- 'elenchuslaw01.TermCompares', WHERE WHAT IT READS IS OF BULK AT MOST 1048576: true; the input reads as it did. -/
def termComparesUptoRow : OpenClaim := { program := "ytbljkiodgjgnaaa", sum := "78dd5c5056f1ac8b76e07e6b0cedb2815a45f74d810ad04344bb8ba333059ca2", func := "elenchus/elenchuslaw01.TermCompares", spec := "termCompares", unfollowed := true, recurses := true, loops := true, apart := false, narrowed := true }
def TermComparesUptoSaid : Prop := termComparesUptoRow.holds Try.pinned (OpenSpec.upto termComparesSpec)

/-- 'elenchuslaw02.PlacePut', WHERE WHAT IT READS IS OF BULK AT MOST 1048576: true; the input reads as it did. -/
def placePutUptoRow : OpenClaim := { program := "ytbljkiodgjgnaaa", sum := "78dd5c5056f1ac8b76e07e6b0cedb2815a45f74d810ad04344bb8ba333059ca2", func := "elenchus/elenchuslaw02.PlacePut", spec := "placePut", unfollowed := true, recurses := true, loops := true, apart := false, narrowed := true }
def PlacePutUptoSaid : Prop := placePutUptoRow.holds Try.pinned (OpenSpec.upto placePutSpec)

/-- 'elenchuslaw03.SubstDoes', WHERE WHAT IT READS IS OF BULK AT MOST 1048576: true; the input reads as it did. -/
def substDoesUptoRow : OpenClaim := { program := "ytbljkiodgjgnaaa", sum := "78dd5c5056f1ac8b76e07e6b0cedb2815a45f74d810ad04344bb8ba333059ca2", func := "elenchus/elenchuslaw03.SubstDoes", spec := "substDoes", unfollowed := true, recurses := true, loops := true, apart := false, narrowed := true }
def SubstDoesUptoSaid : Prop := substDoesUptoRow.holds Try.pinned (OpenSpec.upto substDoesSpec)

/-- 'elenchuslaw03.SubstJoins', WHERE WHAT IT READS IS OF BULK AT MOST 1048576: true; the input reads as it did. -/
def substJoinsUptoRow : OpenClaim := { program := "ytbljkiodgjgnaaa", sum := "78dd5c5056f1ac8b76e07e6b0cedb2815a45f74d810ad04344bb8ba333059ca2", func := "elenchus/elenchuslaw03.SubstJoins", spec := "substJoins", unfollowed := true, recurses := true, loops := true, apart := false, narrowed := true }
def SubstJoinsUptoSaid : Prop := substJoinsUptoRow.holds Try.pinned (OpenSpec.upto substJoinsSpec)

/-- 'elenchuslaw03.SubstStays', WHERE WHAT IT READS IS OF BULK AT MOST 1048576: true; the input reads as it did. -/
def substStaysUptoRow : OpenClaim := { program := "ytbljkiodgjgnaaa", sum := "78dd5c5056f1ac8b76e07e6b0cedb2815a45f74d810ad04344bb8ba333059ca2", func := "elenchus/elenchuslaw03.SubstStays", spec := "substStays", unfollowed := true, recurses := true, loops := true, apart := false, narrowed := true }
def SubstStaysUptoSaid : Prop := substStaysUptoRow.holds Try.pinned (OpenSpec.upto substStaysSpec)

/-- 'elenchuslaw04.UnifySides', WHERE WHAT IT READS IS OF BULK AT MOST 1048576: true; the input reads as it did. -/
def unifySidesUptoRow : OpenClaim := { program := "ytbljkiodgjgnaaa", sum := "78dd5c5056f1ac8b76e07e6b0cedb2815a45f74d810ad04344bb8ba333059ca2", func := "elenchus/elenchuslaw04.UnifySides", spec := "unifySides", unfollowed := true, recurses := true, loops := true, apart := false, narrowed := true }
def UnifySidesUptoSaid : Prop := unifySidesUptoRow.holds Try.pinned (OpenSpec.upto unifySidesSpec)

/-- 'elenchuslaw05.MatchMakes', WHERE WHAT IT READS IS OF BULK AT MOST 1048576: true; the input reads as it did. -/
def matchMakesUptoRow : OpenClaim := { program := "ytbljkiodgjgnaaa", sum := "78dd5c5056f1ac8b76e07e6b0cedb2815a45f74d810ad04344bb8ba333059ca2", func := "elenchus/elenchuslaw05.MatchMakes", spec := "matchMakes", unfollowed := true, recurses := true, loops := true, apart := false, narrowed := true }
def MatchMakesUptoSaid : Prop := matchMakesUptoRow.holds Try.pinned (OpenSpec.upto matchMakesSpec)

end Rows
end Go.Proofs.Ytbljkiodgjgnaaa
