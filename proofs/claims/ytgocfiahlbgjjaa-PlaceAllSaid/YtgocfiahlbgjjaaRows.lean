/-
  NARROWER THAN 'FOR EVERY INPUT', by the rows' own cells (each row's printed sentence says how): TermCompares: loops · TermOrder: loops · TermParts: loops · TermCopy: loops · PlaceDoes: loops · PlacePut: loops · PlaceAll: loops · PlaceWithin: loops.
  DERIVED. THE GIVEN ROWS OF THIS SEAT. 9 by the template 'for every input the law returns true; each argument reads behind the call as it read before'; 0 by the template 'total and deterministic' (their statements: YtgocfiahlbgjjaaTotals.lean).
  GIVEN WITH THE SEED: the statements are not yours to turn. If you find one false, say at which input.
  Laid BY PROGRAM, IN A SANDBOX (cutbox-rows.mjs): the forced cells as the released guide's own fill.sh prints them over the translation 0af5c02288e2f939… (all of the seat's roots in one cut). By AI agents, Wed Nov 11 2026. No macro, syntax, notation, axiom, sorry.
-/
import Derived.Test.YtgocfiahlbgjjaaChecked
import GoSem.Claim
import GoSem.ClaimJoined
import GoSem.ClaimMapViews
import Derived.JoinedTies
import Derived.KernelRfl
namespace Go.Proofs.Ytgocfiahlbgjjaa
/- THE CELL 'sum', in the pinned program and in every row, IS THE sha256 OF THE DUMP (.gsa) THAT YtgocfiahlbgjjaaProg.lean LOADS. Nothing in Lean hashes anything: it is a label: what it is worth is what the hold of that sum in a sandbox is worth. -/
noncomputable def Try.pinned : Pinned := { name := "ytgocfiahlbgjjaa", sum := "0af5c02288e2f939cb545cb8272ebeac6e8f2f05bcbc565457bfa99d249a1bef", checked := Try.checked }
namespace Rows
def none {H : Type} : Left H := { results := [], args := [] }

/-- 'elenchuslaw01.TermCompares': WHATEVER THE INPUT: true; the input reads as it did. -/
def termComparesSpec : ChangeSpec := { name := "termCompares", fn := fun _ => fun
  | [d1, d2] => { results := [.lit (.bool true)], args := [d1, d2] }
  | _ => none }
def termComparesRow : OpenClaim := { program := "ytgocfiahlbgjjaa", sum := "0af5c02288e2f939cb545cb8272ebeac6e8f2f05bcbc565457bfa99d249a1bef", func := "elenchus/elenchuslaw01.TermCompares", spec := "termCompares", unfollowed := true, recurses := true, loops := true, apart := false }
def TermComparesSaid : Prop := termComparesRow.holds Try.pinned (OpenSpec.ofChange termComparesSpec)

/-- ITS FALSE NEIGHBOUR: 'it returns false'. Refute it at one input. -/
def termComparesWrong : ChangeSpec := { name := "termCompares", fn := fun _ => fun
  | [d1, d2] => { results := [.lit (.bool false)], args := [d1, d2] }
  | _ => none }
def TermComparesWrongFalsely : Prop := termComparesRow.holds Try.pinned (OpenSpec.ofChange termComparesWrong)

/-- 'elenchuslaw01.TermOrder': WHATEVER THE INPUT: true; the input reads as it did. -/
def termOrderSpec : ChangeSpec := { name := "termOrder", fn := fun _ => fun
  | [d1, d2, d3] => { results := [.lit (.bool true)], args := [d1, d2, d3] }
  | _ => none }
def termOrderRow : OpenClaim := { program := "ytgocfiahlbgjjaa", sum := "0af5c02288e2f939cb545cb8272ebeac6e8f2f05bcbc565457bfa99d249a1bef", func := "elenchus/elenchuslaw01.TermOrder", spec := "termOrder", unfollowed := true, recurses := true, loops := true, apart := false }
def TermOrderSaid : Prop := termOrderRow.holds Try.pinned (OpenSpec.ofChange termOrderSpec)

/-- ITS FALSE NEIGHBOUR: 'it returns false'. Refute it at one input. -/
def termOrderWrong : ChangeSpec := { name := "termOrder", fn := fun _ => fun
  | [d1, d2, d3] => { results := [.lit (.bool false)], args := [d1, d2, d3] }
  | _ => none }
def TermOrderWrongFalsely : Prop := termOrderRow.holds Try.pinned (OpenSpec.ofChange termOrderWrong)

/-- 'elenchuslaw01.TermParts': WHATEVER THE INPUT: true; the input reads as it did. -/
def termPartsSpec : ChangeSpec := { name := "termParts", fn := fun _ => fun
  | [d1, d2] => { results := [.lit (.bool true)], args := [d1, d2] }
  | _ => none }
def termPartsRow : OpenClaim := { program := "ytgocfiahlbgjjaa", sum := "0af5c02288e2f939cb545cb8272ebeac6e8f2f05bcbc565457bfa99d249a1bef", func := "elenchus/elenchuslaw01.TermParts", spec := "termParts", unfollowed := true, recurses := true, loops := true, apart := false }
def TermPartsSaid : Prop := termPartsRow.holds Try.pinned (OpenSpec.ofChange termPartsSpec)

/-- ITS FALSE NEIGHBOUR: 'it returns false'. Refute it at one input. -/
def termPartsWrong : ChangeSpec := { name := "termParts", fn := fun _ => fun
  | [d1, d2] => { results := [.lit (.bool false)], args := [d1, d2] }
  | _ => none }
def TermPartsWrongFalsely : Prop := termPartsRow.holds Try.pinned (OpenSpec.ofChange termPartsWrong)

/-- 'elenchuslaw01.TermCopy': WHATEVER THE INPUT: true; the input reads as it did. -/
def termCopySpec : ChangeSpec := { name := "termCopy", fn := fun _ => fun
  | [d] => { results := [.lit (.bool true)], args := [d] }
  | _ => none }
def termCopyRow : OpenClaim := { program := "ytgocfiahlbgjjaa", sum := "0af5c02288e2f939cb545cb8272ebeac6e8f2f05bcbc565457bfa99d249a1bef", func := "elenchus/elenchuslaw01.TermCopy", spec := "termCopy", unfollowed := true, recurses := true, loops := true, apart := false }
def TermCopySaid : Prop := termCopyRow.holds Try.pinned (OpenSpec.ofChange termCopySpec)

/-- ITS FALSE NEIGHBOUR: 'it returns false'. Refute it at one input. -/
def termCopyWrong : ChangeSpec := { name := "termCopy", fn := fun _ => fun
  | [d] => { results := [.lit (.bool false)], args := [d] }
  | _ => none }
def TermCopyWrongFalsely : Prop := termCopyRow.holds Try.pinned (OpenSpec.ofChange termCopyWrong)

/-- 'elenchuslaw02.PlaceDoes': WHATEVER THE INPUT: true; the input reads as it did. -/
def placeDoesSpec : ChangeSpec := { name := "placeDoes", fn := fun _ => fun
  | [d1, d2, d3] => { results := [.lit (.bool true)], args := [d1, d2, d3] }
  | _ => none }
def placeDoesRow : OpenClaim := { program := "ytgocfiahlbgjjaa", sum := "0af5c02288e2f939cb545cb8272ebeac6e8f2f05bcbc565457bfa99d249a1bef", func := "elenchus/elenchuslaw02.PlaceDoes", spec := "placeDoes", unfollowed := true, recurses := true, loops := true, apart := false }
def PlaceDoesSaid : Prop := placeDoesRow.holds Try.pinned (OpenSpec.ofChange placeDoesSpec)

/-- ITS FALSE NEIGHBOUR: 'it returns false'. Refute it at one input. -/
def placeDoesWrong : ChangeSpec := { name := "placeDoes", fn := fun _ => fun
  | [d1, d2, d3] => { results := [.lit (.bool false)], args := [d1, d2, d3] }
  | _ => none }
def PlaceDoesWrongFalsely : Prop := placeDoesRow.holds Try.pinned (OpenSpec.ofChange placeDoesWrong)

/-- 'elenchuslaw02.PlaceUnder': WHATEVER THE INPUT: true; the input reads as it did. -/
def placeUnderSpec : ChangeSpec := { name := "placeUnder", fn := fun _ => fun
  | [d1, d2, d3] => { results := [.lit (.bool true)], args := [d1, d2, d3] }
  | _ => none }
def placeUnderRow : OpenClaim := { program := "ytgocfiahlbgjjaa", sum := "0af5c02288e2f939cb545cb8272ebeac6e8f2f05bcbc565457bfa99d249a1bef", func := "elenchus/elenchuslaw02.PlaceUnder", spec := "placeUnder", unfollowed := true, recurses := true, apart := false }
def PlaceUnderSaid : Prop := placeUnderRow.holds Try.pinned (OpenSpec.ofChange placeUnderSpec)

/-- ITS FALSE NEIGHBOUR: 'it returns false'. Refute it at one input. -/
def placeUnderWrong : ChangeSpec := { name := "placeUnder", fn := fun _ => fun
  | [d1, d2, d3] => { results := [.lit (.bool false)], args := [d1, d2, d3] }
  | _ => none }
def PlaceUnderWrongFalsely : Prop := placeUnderRow.holds Try.pinned (OpenSpec.ofChange placeUnderWrong)

/-- 'elenchuslaw02.PlacePut': WHATEVER THE INPUT: true; the input reads as it did. -/
def placePutSpec : ChangeSpec := { name := "placePut", fn := fun _ => fun
  | [d1, d2, d3, d4] => { results := [.lit (.bool true)], args := [d1, d2, d3, d4] }
  | _ => none }
def placePutRow : OpenClaim := { program := "ytgocfiahlbgjjaa", sum := "0af5c02288e2f939cb545cb8272ebeac6e8f2f05bcbc565457bfa99d249a1bef", func := "elenchus/elenchuslaw02.PlacePut", spec := "placePut", unfollowed := true, recurses := true, loops := true, apart := false }
def PlacePutSaid : Prop := placePutRow.holds Try.pinned (OpenSpec.ofChange placePutSpec)

/-- ITS FALSE NEIGHBOUR: 'it returns false'. Refute it at one input. -/
def placePutWrong : ChangeSpec := { name := "placePut", fn := fun _ => fun
  | [d1, d2, d3, d4] => { results := [.lit (.bool false)], args := [d1, d2, d3, d4] }
  | _ => none }
def PlacePutWrongFalsely : Prop := placePutRow.holds Try.pinned (OpenSpec.ofChange placePutWrong)

/-- 'elenchuslaw02.PlaceAll': WHATEVER THE INPUT: true; the input reads as it did. -/
def placeAllSpec : ChangeSpec := { name := "placeAll", fn := fun _ => fun
  | [d] => { results := [.lit (.bool true)], args := [d] }
  | _ => none }
def placeAllRow : OpenClaim := { program := "ytgocfiahlbgjjaa", sum := "0af5c02288e2f939cb545cb8272ebeac6e8f2f05bcbc565457bfa99d249a1bef", func := "elenchus/elenchuslaw02.PlaceAll", spec := "placeAll", unfollowed := true, recurses := true, loops := true, apart := false }
def PlaceAllSaid : Prop := placeAllRow.holds Try.pinned (OpenSpec.ofChange placeAllSpec)

/-- ITS FALSE NEIGHBOUR: 'it returns false'. Refute it at one input. -/
def placeAllWrong : ChangeSpec := { name := "placeAll", fn := fun _ => fun
  | [d] => { results := [.lit (.bool false)], args := [d] }
  | _ => none }
def PlaceAllWrongFalsely : Prop := placeAllRow.holds Try.pinned (OpenSpec.ofChange placeAllWrong)

/-- 'elenchuslaw02.PlaceWithin': WHATEVER THE INPUT: true; the input reads as it did. -/
def placeWithinSpec : ChangeSpec := { name := "placeWithin", fn := fun _ => fun
  | [d1, d2, d3, d4] => { results := [.lit (.bool true)], args := [d1, d2, d3, d4] }
  | _ => none }
def placeWithinRow : OpenClaim := { program := "ytgocfiahlbgjjaa", sum := "0af5c02288e2f939cb545cb8272ebeac6e8f2f05bcbc565457bfa99d249a1bef", func := "elenchus/elenchuslaw02.PlaceWithin", spec := "placeWithin", unfollowed := true, recurses := true, loops := true, apart := false }
def PlaceWithinSaid : Prop := placeWithinRow.holds Try.pinned (OpenSpec.ofChange placeWithinSpec)

/-- ITS FALSE NEIGHBOUR: 'it returns false'. Refute it at one input. -/
def placeWithinWrong : ChangeSpec := { name := "placeWithin", fn := fun _ => fun
  | [d1, d2, d3, d4] => { results := [.lit (.bool false)], args := [d1, d2, d3, d4] }
  | _ => none }
def PlaceWithinWrongFalsely : Prop := placeWithinRow.holds Try.pinned (OpenSpec.ofChange placeWithinWrong)

/- THE SECOND FORM. 'bulk': how many values and letters a reading holds, each counted each time it is reached (what is shared counts as often as it is met; a slice's spare places count too). A statement '..UptoSaid' is the law's where the arguments, and the package variables that the reading takes, are together of bulk at most 1048576: NARROWER than '..Said'. Prove '..Said' where nothing that the law and all that it calls make is longer than what came in: it says more and counts as full. Else prove '..UptoSaid'. A law counts once. -/
mutual
def uptoBulk {H : Type} : DataW H → Nat
  | .lit (.string bytes) => bytes.length + 1
  | .lit _ => 1
  | .nil => 1
  | .ptr d => uptoBulk d + 1
  | .slice elems spare => uptoBulkAll elems + uptoBulkAll spare + 1
  | .agg parts => uptoBulkAll parts + 1
  | .iface _ d => uptoBulk d + 1
  | .map entries => uptoBulkEntries entries + 1
  | .held _ => 1
def uptoBulkAll {H : Type} : List (DataW H) → Nat
  | [] => 0
  | d :: r => uptoBulk d + uptoBulkAll r
def uptoBulkEntries {H : Type} : List (Lit × DataW H) → Nat
  | [] => 0
  | x :: r => uptoBulkEntry x + uptoBulkEntries r
def uptoBulkEntry {H : Type} : Lit × DataW H → Nat
  | (.string bytes, d) => bytes.length + uptoBulk d + 1
  | (_, d) => uptoBulk d + 1
 end
def uptoSmall : (H : Type) → List (DataW H) → Bool := fun _ ds => decide (uptoBulkAll ds ≤ 1048576)
def OpenSpec.upto (s : _root_.Go.ChangeSpec) : _root_.Go.OpenSpec := { _root_.Go.OpenSpec.ofChange s with cond := some uptoSmall }

/-- 'elenchuslaw01.TermCompares', WHERE WHAT IT READS IS OF BULK AT MOST 1048576: true; the input reads as it did. -/
def termComparesUptoRow : OpenClaim := { program := "ytgocfiahlbgjjaa", sum := "0af5c02288e2f939cb545cb8272ebeac6e8f2f05bcbc565457bfa99d249a1bef", func := "elenchus/elenchuslaw01.TermCompares", spec := "termCompares", unfollowed := true, recurses := true, loops := true, apart := false, narrowed := true }
def TermComparesUptoSaid : Prop := termComparesUptoRow.holds Try.pinned (OpenSpec.upto termComparesSpec)

/-- 'elenchuslaw01.TermOrder', WHERE WHAT IT READS IS OF BULK AT MOST 1048576: true; the input reads as it did. -/
def termOrderUptoRow : OpenClaim := { program := "ytgocfiahlbgjjaa", sum := "0af5c02288e2f939cb545cb8272ebeac6e8f2f05bcbc565457bfa99d249a1bef", func := "elenchus/elenchuslaw01.TermOrder", spec := "termOrder", unfollowed := true, recurses := true, loops := true, apart := false, narrowed := true }
def TermOrderUptoSaid : Prop := termOrderUptoRow.holds Try.pinned (OpenSpec.upto termOrderSpec)

/-- 'elenchuslaw01.TermParts', WHERE WHAT IT READS IS OF BULK AT MOST 1048576: true; the input reads as it did. -/
def termPartsUptoRow : OpenClaim := { program := "ytgocfiahlbgjjaa", sum := "0af5c02288e2f939cb545cb8272ebeac6e8f2f05bcbc565457bfa99d249a1bef", func := "elenchus/elenchuslaw01.TermParts", spec := "termParts", unfollowed := true, recurses := true, loops := true, apart := false, narrowed := true }
def TermPartsUptoSaid : Prop := termPartsUptoRow.holds Try.pinned (OpenSpec.upto termPartsSpec)

/-- 'elenchuslaw01.TermCopy', WHERE WHAT IT READS IS OF BULK AT MOST 1048576: true; the input reads as it did. -/
def termCopyUptoRow : OpenClaim := { program := "ytgocfiahlbgjjaa", sum := "0af5c02288e2f939cb545cb8272ebeac6e8f2f05bcbc565457bfa99d249a1bef", func := "elenchus/elenchuslaw01.TermCopy", spec := "termCopy", unfollowed := true, recurses := true, loops := true, apart := false, narrowed := true }
def TermCopyUptoSaid : Prop := termCopyUptoRow.holds Try.pinned (OpenSpec.upto termCopySpec)

/-- 'elenchuslaw02.PlaceDoes', WHERE WHAT IT READS IS OF BULK AT MOST 1048576: true; the input reads as it did. -/
def placeDoesUptoRow : OpenClaim := { program := "ytgocfiahlbgjjaa", sum := "0af5c02288e2f939cb545cb8272ebeac6e8f2f05bcbc565457bfa99d249a1bef", func := "elenchus/elenchuslaw02.PlaceDoes", spec := "placeDoes", unfollowed := true, recurses := true, loops := true, apart := false, narrowed := true }
def PlaceDoesUptoSaid : Prop := placeDoesUptoRow.holds Try.pinned (OpenSpec.upto placeDoesSpec)

/-- 'elenchuslaw02.PlaceUnder', WHERE WHAT IT READS IS OF BULK AT MOST 1048576: true; the input reads as it did. -/
def placeUnderUptoRow : OpenClaim := { program := "ytgocfiahlbgjjaa", sum := "0af5c02288e2f939cb545cb8272ebeac6e8f2f05bcbc565457bfa99d249a1bef", func := "elenchus/elenchuslaw02.PlaceUnder", spec := "placeUnder", unfollowed := true, recurses := true, apart := false, narrowed := true }
def PlaceUnderUptoSaid : Prop := placeUnderUptoRow.holds Try.pinned (OpenSpec.upto placeUnderSpec)

/-- 'elenchuslaw02.PlacePut', WHERE WHAT IT READS IS OF BULK AT MOST 1048576: true; the input reads as it did. -/
def placePutUptoRow : OpenClaim := { program := "ytgocfiahlbgjjaa", sum := "0af5c02288e2f939cb545cb8272ebeac6e8f2f05bcbc565457bfa99d249a1bef", func := "elenchus/elenchuslaw02.PlacePut", spec := "placePut", unfollowed := true, recurses := true, loops := true, apart := false, narrowed := true }
def PlacePutUptoSaid : Prop := placePutUptoRow.holds Try.pinned (OpenSpec.upto placePutSpec)

/-- 'elenchuslaw02.PlaceAll', WHERE WHAT IT READS IS OF BULK AT MOST 1048576: true; the input reads as it did. -/
def placeAllUptoRow : OpenClaim := { program := "ytgocfiahlbgjjaa", sum := "0af5c02288e2f939cb545cb8272ebeac6e8f2f05bcbc565457bfa99d249a1bef", func := "elenchus/elenchuslaw02.PlaceAll", spec := "placeAll", unfollowed := true, recurses := true, loops := true, apart := false, narrowed := true }
def PlaceAllUptoSaid : Prop := placeAllUptoRow.holds Try.pinned (OpenSpec.upto placeAllSpec)

/-- 'elenchuslaw02.PlaceWithin', WHERE WHAT IT READS IS OF BULK AT MOST 1048576: true; the input reads as it did. -/
def placeWithinUptoRow : OpenClaim := { program := "ytgocfiahlbgjjaa", sum := "0af5c02288e2f939cb545cb8272ebeac6e8f2f05bcbc565457bfa99d249a1bef", func := "elenchus/elenchuslaw02.PlaceWithin", spec := "placeWithin", unfollowed := true, recurses := true, loops := true, apart := false, narrowed := true }
def PlaceWithinUptoSaid : Prop := placeWithinUptoRow.holds Try.pinned (OpenSpec.upto placeWithinSpec)

end Rows
end Go.Proofs.Ytgocfiahlbgjjaa
