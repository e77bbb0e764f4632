/-
  NARROWER THAN 'FOR EVERY INPUT', by the rows' own cells (each row's printed sentence says how): KboCompares: loops · KboRows: loops · KboOrder: loops · KboPlaces: loops · KboPuts: loops · KboMulti: loops.
  DERIVED. THE GIVEN ROWS OF THIS SEAT. 6 by the template 'for every input the law returns true; each argument reads behind the call as it read before'; 0 by the template 'total and deterministic' (their statements: YtbfanbaijombaaaTotals.lean).
  GIVEN WITH THE SEED: the statements are not yours to turn. If you find one false, say at which input.
  Laid BY PROGRAM, IN A SANDBOX (cutbox-rows.mjs): the forced cells as the released guide's own fill.sh prints them over the translation a6ff36b2f71e417d… (all of the seat's roots in one cut). By AI agents, Wed Nov 11 2026. No macro, syntax, notation, axiom, sorry.
-/
import Derived.Test.YtbfanbaijombaaaChecked
import GoSem.Claim
import GoSem.ClaimJoined
import GoSem.ClaimMapViews
import Derived.JoinedTies
import Derived.KernelRfl
namespace Go.Proofs.Ytbfanbaijombaaa
/- THE CELL 'sum', in the pinned program and in every row, IS THE sha256 OF THE DUMP (.gsa) THAT YtbfanbaijombaaaProg.lean LOADS. Nothing in Lean hashes anything: it is a label: what it is worth is what the hold of that sum in a sandbox is worth. -/
noncomputable def Try.pinned : Pinned := { name := "ytbfanbaijombaaa", sum := "a6ff36b2f71e417d5fd247ff1e7c85622951217f6979ccbe4a0498fc8a297ea6", checked := Try.checked }
namespace Rows
def none {H : Type} : Left H := { results := [], args := [] }

/-- 'elenchuslaw08.KboCompares': WHATEVER THE INPUT: true; the input reads as it did. -/
def kboComparesSpec : ChangeSpec := { name := "kboCompares", fn := fun _ => fun
  | [d1, d2, d3] => { results := [.lit (.bool true)], args := [d1, d2, d3] }
  | _ => none }
def kboComparesRow : OpenClaim := { program := "ytbfanbaijombaaa", sum := "a6ff36b2f71e417d5fd247ff1e7c85622951217f6979ccbe4a0498fc8a297ea6", func := "elenchus/elenchuslaw08.KboCompares", spec := "kboCompares", unfollowed := true, recurses := true, loops := true, apart := false }
def KboComparesSaid : Prop := kboComparesRow.holds Try.pinned (OpenSpec.ofChange kboComparesSpec)

/-- ITS FALSE NEIGHBOUR: 'it returns false'. Refute it at one input. -/
def kboComparesWrong : ChangeSpec := { name := "kboCompares", fn := fun _ => fun
  | [d1, d2, d3] => { results := [.lit (.bool false)], args := [d1, d2, d3] }
  | _ => none }
def KboComparesWrongFalsely : Prop := kboComparesRow.holds Try.pinned (OpenSpec.ofChange kboComparesWrong)

/-- 'elenchuslaw08.KboRows': WHATEVER THE INPUT: true; the input reads as it did. -/
def kboRowsSpec : ChangeSpec := { name := "kboRows", fn := fun _ => fun
  | [d1, d2, d3] => { results := [.lit (.bool true)], args := [d1, d2, d3] }
  | _ => none }
def kboRowsRow : OpenClaim := { program := "ytbfanbaijombaaa", sum := "a6ff36b2f71e417d5fd247ff1e7c85622951217f6979ccbe4a0498fc8a297ea6", func := "elenchus/elenchuslaw08.KboRows", spec := "kboRows", unfollowed := true, recurses := true, loops := true, apart := false }
def KboRowsSaid : Prop := kboRowsRow.holds Try.pinned (OpenSpec.ofChange kboRowsSpec)

/-- ITS FALSE NEIGHBOUR: 'it returns false'. Refute it at one input. -/
def kboRowsWrong : ChangeSpec := { name := "kboRows", fn := fun _ => fun
  | [d1, d2, d3] => { results := [.lit (.bool false)], args := [d1, d2, d3] }
  | _ => none }
def KboRowsWrongFalsely : Prop := kboRowsRow.holds Try.pinned (OpenSpec.ofChange kboRowsWrong)

/-- 'elenchuslaw08.KboOrder': WHATEVER THE INPUT: true; the input reads as it did. -/
def kboOrderSpec : ChangeSpec := { name := "kboOrder", fn := fun _ => fun
  | [d1, d2, d3, d4] => { results := [.lit (.bool true)], args := [d1, d2, d3, d4] }
  | _ => none }
def kboOrderRow : OpenClaim := { program := "ytbfanbaijombaaa", sum := "a6ff36b2f71e417d5fd247ff1e7c85622951217f6979ccbe4a0498fc8a297ea6", func := "elenchus/elenchuslaw08.KboOrder", spec := "kboOrder", unfollowed := true, recurses := true, loops := true, apart := false }
def KboOrderSaid : Prop := kboOrderRow.holds Try.pinned (OpenSpec.ofChange kboOrderSpec)

/-- ITS FALSE NEIGHBOUR: 'it returns false'. Refute it at one input. -/
def kboOrderWrong : ChangeSpec := { name := "kboOrder", fn := fun _ => fun
  | [d1, d2, d3, d4] => { results := [.lit (.bool false)], args := [d1, d2, d3, d4] }
  | _ => none }
def KboOrderWrongFalsely : Prop := kboOrderRow.holds Try.pinned (OpenSpec.ofChange kboOrderWrong)

/-- 'elenchuslaw08.KboPlaces': WHATEVER THE INPUT: true; the input reads as it did. -/
def kboPlacesSpec : ChangeSpec := { name := "kboPlaces", fn := fun _ => fun
  | [d1, d2, d3, d4, d5] => { results := [.lit (.bool true)], args := [d1, d2, d3, d4, d5] }
  | _ => none }
def kboPlacesRow : OpenClaim := { program := "ytbfanbaijombaaa", sum := "a6ff36b2f71e417d5fd247ff1e7c85622951217f6979ccbe4a0498fc8a297ea6", func := "elenchus/elenchuslaw08.KboPlaces", spec := "kboPlaces", unfollowed := true, recurses := true, loops := true, apart := false }
def KboPlacesSaid : Prop := kboPlacesRow.holds Try.pinned (OpenSpec.ofChange kboPlacesSpec)

/-- ITS FALSE NEIGHBOUR: 'it returns false'. Refute it at one input. -/
def kboPlacesWrong : ChangeSpec := { name := "kboPlaces", fn := fun _ => fun
  | [d1, d2, d3, d4, d5] => { results := [.lit (.bool false)], args := [d1, d2, d3, d4, d5] }
  | _ => none }
def KboPlacesWrongFalsely : Prop := kboPlacesRow.holds Try.pinned (OpenSpec.ofChange kboPlacesWrong)

/-- 'elenchuslaw08.KboPuts': WHATEVER THE INPUT: true; the input reads as it did. -/
def kboPutsSpec : ChangeSpec := { name := "kboPuts", fn := fun _ => fun
  | [d1, d2, d3, d4] => { results := [.lit (.bool true)], args := [d1, d2, d3, d4] }
  | _ => none }
def kboPutsRow : OpenClaim := { program := "ytbfanbaijombaaa", sum := "a6ff36b2f71e417d5fd247ff1e7c85622951217f6979ccbe4a0498fc8a297ea6", func := "elenchus/elenchuslaw08.KboPuts", spec := "kboPuts", unfollowed := true, recurses := true, loops := true, apart := false }
def KboPutsSaid : Prop := kboPutsRow.holds Try.pinned (OpenSpec.ofChange kboPutsSpec)

/-- ITS FALSE NEIGHBOUR: 'it returns false'. Refute it at one input. -/
def kboPutsWrong : ChangeSpec := { name := "kboPuts", fn := fun _ => fun
  | [d1, d2, d3, d4] => { results := [.lit (.bool false)], args := [d1, d2, d3, d4] }
  | _ => none }
def KboPutsWrongFalsely : Prop := kboPutsRow.holds Try.pinned (OpenSpec.ofChange kboPutsWrong)

/-- 'elenchuslaw08.KboMulti': WHATEVER THE INPUT: true; the input reads as it did. -/
def kboMultiSpec : ChangeSpec := { name := "kboMulti", fn := fun _ => fun
  | [d1, d2, d3, d4] => { results := [.lit (.bool true)], args := [d1, d2, d3, d4] }
  | _ => none }
def kboMultiRow : OpenClaim := { program := "ytbfanbaijombaaa", sum := "a6ff36b2f71e417d5fd247ff1e7c85622951217f6979ccbe4a0498fc8a297ea6", func := "elenchus/elenchuslaw08.KboMulti", spec := "kboMulti", unfollowed := true, recurses := true, loops := true, apart := false }
def KboMultiSaid : Prop := kboMultiRow.holds Try.pinned (OpenSpec.ofChange kboMultiSpec)

/-- ITS FALSE NEIGHBOUR: 'it returns false'. Refute it at one input. -/
def kboMultiWrong : ChangeSpec := { name := "kboMulti", fn := fun _ => fun
  | [d1, d2, d3, d4] => { results := [.lit (.bool false)], args := [d1, d2, d3, d4] }
  | _ => none }
def KboMultiWrongFalsely : Prop := kboMultiRow.holds Try.pinned (OpenSpec.ofChange kboMultiWrong)

/- THE SECOND FORM. 'bulk': how many values and letters a reading holds, each counted each time it is reached (what is shared counts as often as it is met; a slice's spare places count too). A statement '..UptoSaid' is the law's where the arguments, and the package variables that the reading takes, are together of bulk at most 1048576: NARROWER than '..Said'. Prove '..Said' where nothing that the law and all that it calls make is longer than what came in: it says more and counts as full. Else prove '..UptoSaid'. A law counts once. -/
mutual
def uptoBulk {H : Type} : DataW H → Nat
  | .lit (.string bytes) => bytes.length + 1
  | .lit _ => 1
  | .nil => 1
  | .ptr d => uptoBulk d + 1
  | .slice elems spare => uptoBulkAll elems + uptoBulkAll spare + 1
  | .agg parts => uptoBulkAll parts + 1
  | .iface _ d => uptoBulk d + 1
  | .map entries => uptoBulkEntries entries + 1
  | .held _ => 1
def uptoBulkAll {H : Type} : List (DataW H) → Nat
  | [] => 0
  | d :: r => uptoBulk d + uptoBulkAll r
def uptoBulkEntries {H : Type} : List (Lit × DataW H) → Nat
  | [] => 0
  | x :: r => uptoBulkEntry x + uptoBulkEntries r
def uptoBulkEntry {H : Type} : Lit × DataW H → Nat
  | (.string bytes, d) => bytes.length + uptoBulk d + 1
  | (_, d) => uptoBulk d + 1
 end
def uptoSmall : (H : Type) → List (DataW H) → Bool := fun _ ds => decide (uptoBulkAll ds ≤ 1048576)
def OpenSpec.upto (s : _root_.Go.ChangeSpec) : _root_.Go.OpenSpec := { _root_.Go.OpenSpec.ofChange s with cond := some uptoSmall }

/-- 'elenchuslaw08.KboCompares', WHERE WHAT IT READS IS OF BULK AT MOST 1048576: true; the input reads as it did. -/
def kboComparesUptoRow : OpenClaim := { program := "ytbfanbaijombaaa", sum := "a6ff36b2f71e417d5fd247ff1e7c85622951217f6979ccbe4a0498fc8a297ea6", func := "elenchus/elenchuslaw08.KboCompares", spec := "kboCompares", unfollowed := true, recurses := true, loops := true, apart := false, narrowed := true }
def KboComparesUptoSaid : Prop := kboComparesUptoRow.holds Try.pinned (OpenSpec.upto kboComparesSpec)

/-- 'elenchuslaw08.KboRows', WHERE WHAT IT READS IS OF BULK AT MOST 1048576: true; the input reads as it did. -/
def kboRowsUptoRow : OpenClaim := { program := "ytbfanbaijombaaa", sum := "a6ff36b2f71e417d5fd247ff1e7c85622951217f6979ccbe4a0498fc8a297ea6", func := "elenchus/elenchuslaw08.KboRows", spec := "kboRows", unfollowed := true, recurses := true, loops := true, apart := false, narrowed := true }
def KboRowsUptoSaid : Prop := kboRowsUptoRow.holds Try.pinned (OpenSpec.upto kboRowsSpec)

/-- 'elenchuslaw08.KboOrder', WHERE WHAT IT READS IS OF BULK AT MOST 1048576: true; the input reads as it did. -/
def kboOrderUptoRow : OpenClaim := { program := "ytbfanbaijombaaa", sum := "a6ff36b2f71e417d5fd247ff1e7c85622951217f6979ccbe4a0498fc8a297ea6", func := "elenchus/elenchuslaw08.KboOrder", spec := "kboOrder", unfollowed := true, recurses := true, loops := true, apart := false, narrowed := true }
def KboOrderUptoSaid : Prop := kboOrderUptoRow.holds Try.pinned (OpenSpec.upto kboOrderSpec)

/-- 'elenchuslaw08.KboPlaces', WHERE WHAT IT READS IS OF BULK AT MOST 1048576: true; the input reads as it did. -/
def kboPlacesUptoRow : OpenClaim := { program := "ytbfanbaijombaaa", sum := "a6ff36b2f71e417d5fd247ff1e7c85622951217f6979ccbe4a0498fc8a297ea6", func := "elenchus/elenchuslaw08.KboPlaces", spec := "kboPlaces", unfollowed := true, recurses := true, loops := true, apart := false, narrowed := true }
def KboPlacesUptoSaid : Prop := kboPlacesUptoRow.holds Try.pinned (OpenSpec.upto kboPlacesSpec)

/-- 'elenchuslaw08.KboPuts', WHERE WHAT IT READS IS OF BULK AT MOST 1048576: true; the input reads as it did. -/
def kboPutsUptoRow : OpenClaim := { program := "ytbfanbaijombaaa", sum := "a6ff36b2f71e417d5fd247ff1e7c85622951217f6979ccbe4a0498fc8a297ea6", func := "elenchus/elenchuslaw08.KboPuts", spec := "kboPuts", unfollowed := true, recurses := true, loops := true, apart := false, narrowed := true }
def KboPutsUptoSaid : Prop := kboPutsUptoRow.holds Try.pinned (OpenSpec.upto kboPutsSpec)

/-- 'elenchuslaw08.KboMulti', WHERE WHAT IT READS IS OF BULK AT MOST 1048576: true; the input reads as it did. -/
def kboMultiUptoRow : OpenClaim := { program := "ytbfanbaijombaaa", sum := "a6ff36b2f71e417d5fd247ff1e7c85622951217f6979ccbe4a0498fc8a297ea6", func := "elenchus/elenchuslaw08.KboMulti", spec := "kboMulti", unfollowed := true, recurses := true, loops := true, apart := false, narrowed := true }
def KboMultiUptoSaid : Prop := kboMultiUptoRow.holds Try.pinned (OpenSpec.upto kboMultiSpec)

end Rows
end Go.Proofs.Ytbfanbaijombaaa
