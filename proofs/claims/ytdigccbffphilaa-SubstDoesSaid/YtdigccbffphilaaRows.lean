/-
  NARROWER THAN 'FOR EVERY INPUT', by the rows' own cells (each row's printed sentence says how): PlaceDoes: loops · SubstDoes: loops · SubstJoins: loops · SubstThen: loops · SubstTogether: loops · SubstStays: loops.
  DERIVED. THE GIVEN ROWS OF THIS SEAT. 6 by the template 'for every input the law returns true; each argument reads behind the call as it read before'; 0 by the template 'total and deterministic' (their statements: YtdigccbffphilaaTotals.lean).
  GIVEN WITH THE SEED: the statements are not yours to turn. If you find one false, say at which input.
  Laid BY PROGRAM, IN A SANDBOX (cutbox-rows.mjs): the forced cells as the released guide's own fill.sh prints them over the translation ebd05f3e006dc88f… (all of the seat's roots in one cut). By AI agents, Wed Nov 11 2026. No macro, syntax, notation, axiom, sorry.
-/
import Derived.Test.YtdigccbffphilaaChecked
import GoSem.Claim
import GoSem.ClaimJoined
import GoSem.ClaimMapViews
import Derived.JoinedTies
import Derived.KernelRfl
namespace Go.Proofs.Ytdigccbffphilaa
/- THE CELL 'sum', in the pinned program and in every row, IS THE sha256 OF THE DUMP (.gsa) THAT YtdigccbffphilaaProg.lean LOADS. Nothing in Lean hashes anything: it is a label: what it is worth is what the hold of that sum in a sandbox is worth. -/
noncomputable def Try.pinned : Pinned := { name := "ytdigccbffphilaa", sum := "ebd05f3e006dc88f7715712b1ca8280691650e17f8c8e9d0865a9d6aa37cd8ea", checked := Try.checked }
namespace Rows
def none {H : Type} : Left H := { results := [], args := [] }

/-- 'elenchuslaw02.PlaceDoes': WHATEVER THE INPUT: true; the input reads as it did. -/
def placeDoesSpec : ChangeSpec := { name := "placeDoes", fn := fun _ => fun
  | [d1, d2, d3] => { results := [.lit (.bool true)], args := [d1, d2, d3] }
  | _ => none }
def placeDoesRow : OpenClaim := { program := "ytdigccbffphilaa", sum := "ebd05f3e006dc88f7715712b1ca8280691650e17f8c8e9d0865a9d6aa37cd8ea", func := "elenchus/elenchuslaw02.PlaceDoes", spec := "placeDoes", unfollowed := true, recurses := true, loops := true, apart := false }
def PlaceDoesSaid : Prop := placeDoesRow.holds Try.pinned (OpenSpec.ofChange placeDoesSpec)

/-- ITS FALSE NEIGHBOUR: 'it returns false'. Refute it at one input. -/
def placeDoesWrong : ChangeSpec := { name := "placeDoes", fn := fun _ => fun
  | [d1, d2, d3] => { results := [.lit (.bool false)], args := [d1, d2, d3] }
  | _ => none }
def PlaceDoesWrongFalsely : Prop := placeDoesRow.holds Try.pinned (OpenSpec.ofChange placeDoesWrong)

/-- 'elenchuslaw03.SubstDoes': WHATEVER THE INPUT: true; the input reads as it did. -/
def substDoesSpec : ChangeSpec := { name := "substDoes", fn := fun _ => fun
  | [d1, d2, d3] => { results := [.lit (.bool true)], args := [d1, d2, d3] }
  | _ => none }
def substDoesRow : OpenClaim := { program := "ytdigccbffphilaa", sum := "ebd05f3e006dc88f7715712b1ca8280691650e17f8c8e9d0865a9d6aa37cd8ea", func := "elenchus/elenchuslaw03.SubstDoes", spec := "substDoes", unfollowed := true, recurses := true, loops := true, apart := false }
def SubstDoesSaid : Prop := substDoesRow.holds Try.pinned (OpenSpec.ofChange substDoesSpec)

/-- ITS FALSE NEIGHBOUR: 'it returns false'. Refute it at one input. -/
def substDoesWrong : ChangeSpec := { name := "substDoes", fn := fun _ => fun
  | [d1, d2, d3] => { results := [.lit (.bool false)], args := [d1, d2, d3] }
  | _ => none }
def SubstDoesWrongFalsely : Prop := substDoesRow.holds Try.pinned (OpenSpec.ofChange substDoesWrong)

/-- 'elenchuslaw03.SubstJoins': WHATEVER THE INPUT: true; the input reads as it did. -/
def substJoinsSpec : ChangeSpec := { name := "substJoins", fn := fun _ => fun
  | [d1, d2] => { results := [.lit (.bool true)], args := [d1, d2] }
  | _ => none }
def substJoinsRow : OpenClaim := { program := "ytdigccbffphilaa", sum := "ebd05f3e006dc88f7715712b1ca8280691650e17f8c8e9d0865a9d6aa37cd8ea", func := "elenchus/elenchuslaw03.SubstJoins", spec := "substJoins", unfollowed := true, recurses := true, loops := true, apart := false }
def SubstJoinsSaid : Prop := substJoinsRow.holds Try.pinned (OpenSpec.ofChange substJoinsSpec)

/-- ITS FALSE NEIGHBOUR: 'it returns false'. Refute it at one input. -/
def substJoinsWrong : ChangeSpec := { name := "substJoins", fn := fun _ => fun
  | [d1, d2] => { results := [.lit (.bool false)], args := [d1, d2] }
  | _ => none }
def SubstJoinsWrongFalsely : Prop := substJoinsRow.holds Try.pinned (OpenSpec.ofChange substJoinsWrong)

/-- 'elenchuslaw03.SubstThen': WHATEVER THE INPUT: true; the input reads as it did. -/
def substThenSpec : ChangeSpec := { name := "substThen", fn := fun _ => fun
  | [d1, d2, d3] => { results := [.lit (.bool true)], args := [d1, d2, d3] }
  | _ => none }
def substThenRow : OpenClaim := { program := "ytdigccbffphilaa", sum := "ebd05f3e006dc88f7715712b1ca8280691650e17f8c8e9d0865a9d6aa37cd8ea", func := "elenchus/elenchuslaw03.SubstThen", spec := "substThen", unfollowed := true, recurses := true, loops := true, apart := false }
def SubstThenSaid : Prop := substThenRow.holds Try.pinned (OpenSpec.ofChange substThenSpec)

/-- ITS FALSE NEIGHBOUR: 'it returns false'. Refute it at one input. -/
def substThenWrong : ChangeSpec := { name := "substThen", fn := fun _ => fun
  | [d1, d2, d3] => { results := [.lit (.bool false)], args := [d1, d2, d3] }
  | _ => none }
def SubstThenWrongFalsely : Prop := substThenRow.holds Try.pinned (OpenSpec.ofChange substThenWrong)

/-- 'elenchuslaw03.SubstTogether': WHATEVER THE INPUT: true; the input reads as it did. -/
def substTogetherSpec : ChangeSpec := { name := "substTogether", fn := fun _ => fun
  | [d1, d2, d3] => { results := [.lit (.bool true)], args := [d1, d2, d3] }
  | _ => none }
def substTogetherRow : OpenClaim := { program := "ytdigccbffphilaa", sum := "ebd05f3e006dc88f7715712b1ca8280691650e17f8c8e9d0865a9d6aa37cd8ea", func := "elenchus/elenchuslaw03.SubstTogether", spec := "substTogether", unfollowed := true, recurses := true, loops := true, apart := false }
def SubstTogetherSaid : Prop := substTogetherRow.holds Try.pinned (OpenSpec.ofChange substTogetherSpec)

/-- ITS FALSE NEIGHBOUR: 'it returns false'. Refute it at one input. -/
def substTogetherWrong : ChangeSpec := { name := "substTogether", fn := fun _ => fun
  | [d1, d2, d3] => { results := [.lit (.bool false)], args := [d1, d2, d3] }
  | _ => none }
def SubstTogetherWrongFalsely : Prop := substTogetherRow.holds Try.pinned (OpenSpec.ofChange substTogetherWrong)

/-- 'elenchuslaw03.SubstStays': WHATEVER THE INPUT: true; the input reads as it did. -/
def substStaysSpec : ChangeSpec := { name := "substStays", fn := fun _ => fun
  | [d1, d2] => { results := [.lit (.bool true)], args := [d1, d2] }
  | _ => none }
def substStaysRow : OpenClaim := { program := "ytdigccbffphilaa", sum := "ebd05f3e006dc88f7715712b1ca8280691650e17f8c8e9d0865a9d6aa37cd8ea", func := "elenchus/elenchuslaw03.SubstStays", spec := "substStays", unfollowed := true, recurses := true, loops := true, apart := false }
def SubstStaysSaid : Prop := substStaysRow.holds Try.pinned (OpenSpec.ofChange substStaysSpec)

/-- ITS FALSE NEIGHBOUR: 'it returns false'. Refute it at one input. -/
def substStaysWrong : ChangeSpec := { name := "substStays", fn := fun _ => fun
  | [d1, d2] => { results := [.lit (.bool false)], args := [d1, d2] }
  | _ => none }
def SubstStaysWrongFalsely : Prop := substStaysRow.holds Try.pinned (OpenSpec.ofChange substStaysWrong)

/- THE SECOND FORM. 'bulk': how many values and letters a reading holds, each counted each time it is reached (what is shared counts as often as it is met; a slice's spare places count too). A statement '..UptoSaid' is the law's where the arguments, and the package variables that the reading takes, are together of bulk at most 1048576: NARROWER than '..Said'. Prove '..Said' where nothing that the law and all that it calls make is longer than what came in: it says more and counts as full. Else prove '..UptoSaid'. A law counts once. -/
mutual
def uptoBulk {H : Type} : DataW H → Nat
  | .lit (.string bytes) => bytes.length + 1
  | .lit _ => 1
  | .nil => 1
  | .ptr d => uptoBulk d + 1
  | .slice elems spare => uptoBulkAll elems + uptoBulkAll spare + 1
  | .agg parts => uptoBulkAll parts + 1
  | .iface _ d => uptoBulk d + 1
  | .map entries => uptoBulkEntries entries + 1
  | .held _ => 1
def uptoBulkAll {H : Type} : List (DataW H) → Nat
  | [] => 0
  | d :: r => uptoBulk d + uptoBulkAll r
def uptoBulkEntries {H : Type} : List (Lit × DataW H) → Nat
  | [] => 0
  | x :: r => uptoBulkEntry x + uptoBulkEntries r
def uptoBulkEntry {H : Type} : Lit × DataW H → Nat
  | (.string bytes, d) => bytes.length + uptoBulk d + 1
  | (_, d) => uptoBulk d + 1
 end
def uptoSmall : (H : Type) → List (DataW H) → Bool := fun _ ds => decide (uptoBulkAll ds ≤ 1048576)
def OpenSpec.upto (s : _root_.Go.ChangeSpec) : _root_.Go.OpenSpec := { _root_.Go.OpenSpec.ofChange s with cond := some uptoSmall }

/-- 'elenchuslaw02.PlaceDoes', WHERE WHAT IT READS IS OF BULK AT MOST 1048576: true; the input reads as it did. -/
def placeDoesUptoRow : OpenClaim := { program := "ytdigccbffphilaa", sum := "ebd05f3e006dc88f7715712b1ca8280691650e17f8c8e9d0865a9d6aa37cd8ea", func := "elenchus/elenchuslaw02.PlaceDoes", spec := "placeDoes", unfollowed := true, recurses := true, loops := true, apart := false, narrowed := true }
def PlaceDoesUptoSaid : Prop := placeDoesUptoRow.holds Try.pinned (OpenSpec.upto placeDoesSpec)

/-- 'elenchuslaw03.SubstDoes', WHERE WHAT IT READS IS OF BULK AT MOST 1048576: true; the input reads as it did. -/
def substDoesUptoRow : OpenClaim := { program := "ytdigccbffphilaa", sum := "ebd05f3e006dc88f7715712b1ca8280691650e17f8c8e9d0865a9d6aa37cd8ea", func := "elenchus/elenchuslaw03.SubstDoes", spec := "substDoes", unfollowed := true, recurses := true, loops := true, apart := false, narrowed := true }
def SubstDoesUptoSaid : Prop := substDoesUptoRow.holds Try.pinned (OpenSpec.upto substDoesSpec)

/-- 'elenchuslaw03.SubstJoins', WHERE WHAT IT READS IS OF BULK AT MOST 1048576: true; the input reads as it did. -/
def substJoinsUptoRow : OpenClaim := { program := "ytdigccbffphilaa", sum := "ebd05f3e006dc88f7715712b1ca8280691650e17f8c8e9d0865a9d6aa37cd8ea", func := "elenchus/elenchuslaw03.SubstJoins", spec := "substJoins", unfollowed := true, recurses := true, loops := true, apart := false, narrowed := true }
def SubstJoinsUptoSaid : Prop := substJoinsUptoRow.holds Try.pinned (OpenSpec.upto substJoinsSpec)

/-- 'elenchuslaw03.SubstThen', WHERE WHAT IT READS IS OF BULK AT MOST 1048576: true; the input reads as it did. -/
def substThenUptoRow : OpenClaim := { program := "ytdigccbffphilaa", sum := "ebd05f3e006dc88f7715712b1ca8280691650e17f8c8e9d0865a9d6aa37cd8ea", func := "elenchus/elenchuslaw03.SubstThen", spec := "substThen", unfollowed := true, recurses := true, loops := true, apart := false, narrowed := true }
def SubstThenUptoSaid : Prop := substThenUptoRow.holds Try.pinned (OpenSpec.upto substThenSpec)

/-- 'elenchuslaw03.SubstTogether', WHERE WHAT IT READS IS OF BULK AT MOST 1048576: true; the input reads as it did. -/
def substTogetherUptoRow : OpenClaim := { program := "ytdigccbffphilaa", sum := "ebd05f3e006dc88f7715712b1ca8280691650e17f8c8e9d0865a9d6aa37cd8ea", func := "elenchus/elenchuslaw03.SubstTogether", spec := "substTogether", unfollowed := true, recurses := true, loops := true, apart := false, narrowed := true }
def SubstTogetherUptoSaid : Prop := substTogetherUptoRow.holds Try.pinned (OpenSpec.upto substTogetherSpec)

/-- 'elenchuslaw03.SubstStays', WHERE WHAT IT READS IS OF BULK AT MOST 1048576: true; the input reads as it did. -/
def substStaysUptoRow : OpenClaim := { program := "ytdigccbffphilaa", sum := "ebd05f3e006dc88f7715712b1ca8280691650e17f8c8e9d0865a9d6aa37cd8ea", func := "elenchus/elenchuslaw03.SubstStays", spec := "substStays", unfollowed := true, recurses := true, loops := true, apart := false, narrowed := true }
def SubstStaysUptoSaid : Prop := substStaysUptoRow.holds Try.pinned (OpenSpec.upto substStaysSpec)

end Rows
end Go.Proofs.Ytdigccbffphilaa
