/-
  NARROWER THAN 'FOR EVERY INPUT', by the rows' own cells (each row's printed sentence says how): UnifyMakes: loops · BankDoes: loops · BankOnce: loops · BankNil: loops.
  DERIVED. THE GIVEN ROWS OF THIS SEAT. 5 by the template 'for every input the law returns true; each argument reads behind the call as it read before'; 0 by the template 'total and deterministic' (their statements: YtkejacodofmlhaaTotals.lean).
  GIVEN WITH THE SEED: the statements are not yours to turn. If you find one false, say at which input.
  Laid BY PROGRAM, IN A SANDBOX (cutbox-rows.mjs): the forced cells as the released guide's own fill.sh prints them over the translation 1f8856fe7fb18ae2… (all of the seat's roots in one cut). By AI agents, Wed Nov 11 2026. No macro, syntax, notation, axiom, sorry.
-/
import Derived.Test.YtkejacodofmlhaaChecked
import GoSem.Claim
import GoSem.ClaimJoined
import GoSem.ClaimMapViews
import Derived.JoinedTies
import Derived.KernelRfl
namespace Go.Proofs.Ytkejacodofmlhaa
/- THE CELL 'sum', in the pinned program and in every row, IS THE sha256 OF THE DUMP (.gsa) THAT YtkejacodofmlhaaProg.lean LOADS. Nothing in Lean hashes anything: it is a label: what it is worth is what the hold of that sum in a sandbox is worth. -/
noncomputable def Try.pinned : Pinned := { name := "ytkejacodofmlhaa", sum := "1f8856fe7fb18ae2ed8a4a1d31006e3dfcceaf7822b65b49e6f432c401402462", checked := Try.checked }
namespace Rows
def none {H : Type} : Left H := { results := [], args := [] }

/-- 'elenchuslaw04.UnifyMakes': WHATEVER THE INPUT: true; the input reads as it did. -/
def unifyMakesSpec : ChangeSpec := { name := "unifyMakes", fn := fun _ => fun
  | [d1, d2] => { results := [.lit (.bool true)], args := [d1, d2] }
  | _ => none }
def unifyMakesRow : OpenClaim := { program := "ytkejacodofmlhaa", sum := "1f8856fe7fb18ae2ed8a4a1d31006e3dfcceaf7822b65b49e6f432c401402462", func := "elenchus/elenchuslaw04.UnifyMakes", spec := "unifyMakes", unfollowed := true, recurses := true, loops := true, plainKeys := false, apart := false }
def UnifyMakesSaid : Prop := unifyMakesRow.holds Try.pinned (OpenSpec.ofChange unifyMakesSpec)

/-- ITS FALSE NEIGHBOUR: 'it returns false'. Refute it at one input. -/
def unifyMakesWrong : ChangeSpec := { name := "unifyMakes", fn := fun _ => fun
  | [d1, d2] => { results := [.lit (.bool false)], args := [d1, d2] }
  | _ => none }
def UnifyMakesWrongFalsely : Prop := unifyMakesRow.holds Try.pinned (OpenSpec.ofChange unifyMakesWrong)

/-- 'elenchuslaw06.BankDoes': WHATEVER THE INPUT: true; the input reads as it did. -/
def bankDoesSpec : ChangeSpec := { name := "bankDoes", fn := fun _ => fun
  | [d] => { results := [.lit (.bool true)], args := [d] }
  | _ => none }
def bankDoesRow : OpenClaim := { program := "ytkejacodofmlhaa", sum := "1f8856fe7fb18ae2ed8a4a1d31006e3dfcceaf7822b65b49e6f432c401402462", func := "elenchus/elenchuslaw06.BankDoes", spec := "bankDoes", unfollowed := true, recurses := true, loops := true, plainKeys := false, apart := false }
def BankDoesSaid : Prop := bankDoesRow.holds Try.pinned (OpenSpec.ofChange bankDoesSpec)

/-- ITS FALSE NEIGHBOUR: 'it returns false'. Refute it at one input. -/
def bankDoesWrong : ChangeSpec := { name := "bankDoes", fn := fun _ => fun
  | [d] => { results := [.lit (.bool false)], args := [d] }
  | _ => none }
def BankDoesWrongFalsely : Prop := bankDoesRow.holds Try.pinned (OpenSpec.ofChange bankDoesWrong)

/-- 'elenchuslaw06.BankOnce': WHATEVER THE INPUT: true; the input reads as it did. -/
def bankOnceSpec : ChangeSpec := { name := "bankOnce", fn := fun _ => fun
  | [d] => { results := [.lit (.bool true)], args := [d] }
  | _ => none }
def bankOnceRow : OpenClaim := { program := "ytkejacodofmlhaa", sum := "1f8856fe7fb18ae2ed8a4a1d31006e3dfcceaf7822b65b49e6f432c401402462", func := "elenchus/elenchuslaw06.BankOnce", spec := "bankOnce", unfollowed := true, recurses := true, loops := true, plainKeys := false, apart := false }
def BankOnceSaid : Prop := bankOnceRow.holds Try.pinned (OpenSpec.ofChange bankOnceSpec)

/-- ITS FALSE NEIGHBOUR: 'it returns false'. Refute it at one input. -/
def bankOnceWrong : ChangeSpec := { name := "bankOnce", fn := fun _ => fun
  | [d] => { results := [.lit (.bool false)], args := [d] }
  | _ => none }
def BankOnceWrongFalsely : Prop := bankOnceRow.holds Try.pinned (OpenSpec.ofChange bankOnceWrong)

/-- 'elenchuslaw06.BankFull': WHATEVER THE INPUT: true; the input reads as it did. -/
def bankFullSpec : ChangeSpec := { name := "bankFull", fn := fun _ => fun
  | [d] => { results := [.lit (.bool true)], args := [d] }
  | _ => none }
def bankFullRow : OpenClaim := { program := "ytkejacodofmlhaa", sum := "1f8856fe7fb18ae2ed8a4a1d31006e3dfcceaf7822b65b49e6f432c401402462", func := "elenchus/elenchuslaw06.BankFull", spec := "bankFull", unfollowed := true, recurses := true, plainKeys := false, apart := false }
def BankFullSaid : Prop := bankFullRow.holds Try.pinned (OpenSpec.ofChange bankFullSpec)

/-- ITS FALSE NEIGHBOUR: 'it returns false'. Refute it at one input. -/
def bankFullWrong : ChangeSpec := { name := "bankFull", fn := fun _ => fun
  | [d] => { results := [.lit (.bool false)], args := [d] }
  | _ => none }
def BankFullWrongFalsely : Prop := bankFullRow.holds Try.pinned (OpenSpec.ofChange bankFullWrong)

/-- 'elenchuslaw06.BankNil': WHATEVER THE INPUT: true; the input reads as it did. -/
def bankNilSpec : ChangeSpec := { name := "bankNil", fn := fun _ => fun
  | [d1, d2] => { results := [.lit (.bool true)], args := [d1, d2] }
  | _ => none }
def bankNilRow : OpenClaim := { program := "ytkejacodofmlhaa", sum := "1f8856fe7fb18ae2ed8a4a1d31006e3dfcceaf7822b65b49e6f432c401402462", func := "elenchus/elenchuslaw06.BankNil", spec := "bankNil", unfollowed := true, recurses := true, loops := true, plainKeys := false, apart := false }
def BankNilSaid : Prop := bankNilRow.holds Try.pinned (OpenSpec.ofChange bankNilSpec)

/-- ITS FALSE NEIGHBOUR: 'it returns false'. Refute it at one input. -/
def bankNilWrong : ChangeSpec := { name := "bankNil", fn := fun _ => fun
  | [d1, d2] => { results := [.lit (.bool false)], args := [d1, d2] }
  | _ => none }
def BankNilWrongFalsely : Prop := bankNilRow.holds Try.pinned (OpenSpec.ofChange bankNilWrong)

/- THE SECOND FORM. 'bulk': how many values and letters a reading holds, each counted each time it is reached (what is shared counts as often as it is met; a slice's spare places count too). A statement '..UptoSaid' is the law's where the arguments, and the package variables that the reading takes, are together of bulk at most 1048576: NARROWER than '..Said'. Prove '..Said' where nothing that the law and all that it calls make is longer than what came in: it says more and counts as full. Else prove '..UptoSaid'. A law counts once. -/
mutual
def uptoBulk {H : Type} : DataW H → Nat
  | .lit (.string bytes) => bytes.length + 1
  | .lit _ => 1
  | .nil => 1
  | .ptr d => uptoBulk d + 1
  | .slice elems spare => uptoBulkAll elems + uptoBulkAll spare + 1
  | .agg parts => uptoBulkAll parts + 1
  | .iface _ d => uptoBulk d + 1
  | .map entries => uptoBulkEntries entries + 1
  | .held _ => 1
def uptoBulkAll {H : Type} : List (DataW H) → Nat
  | [] => 0
  | d :: r => uptoBulk d + uptoBulkAll r
def uptoBulkEntries {H : Type} : List (Lit × DataW H) → Nat
  | [] => 0
  | x :: r => uptoBulkEntry x + uptoBulkEntries r
def uptoBulkEntry {H : Type} : Lit × DataW H → Nat
  | (.string bytes, d) => bytes.length + uptoBulk d + 1
  | (_, d) => uptoBulk d + 1
 end
def uptoSmall : (H : Type) → List (DataW H) → Bool := fun _ ds => decide (uptoBulkAll ds ≤ 1048576)
def OpenSpec.upto (s : _root_.Go.ChangeSpec) : _root_.Go.OpenSpec := { _root_.Go.OpenSpec.ofChange s with cond := some uptoSmall }

/-- 'elenchuslaw04.UnifyMakes', WHERE WHAT IT READS IS OF BULK AT MOST 1048576: true; the input reads as it did. -/
def unifyMakesUptoRow : OpenClaim := { program := "ytkejacodofmlhaa", sum := "1f8856fe7fb18ae2ed8a4a1d31006e3dfcceaf7822b65b49e6f432c401402462", func := "elenchus/elenchuslaw04.UnifyMakes", spec := "unifyMakes", unfollowed := true, recurses := true, loops := true, plainKeys := false, apart := false, narrowed := true }
def UnifyMakesUptoSaid : Prop := unifyMakesUptoRow.holds Try.pinned (OpenSpec.upto unifyMakesSpec)

/-- 'elenchuslaw06.BankDoes', WHERE WHAT IT READS IS OF BULK AT MOST 1048576: true; the input reads as it did. -/
def bankDoesUptoRow : OpenClaim := { program := "ytkejacodofmlhaa", sum := "1f8856fe7fb18ae2ed8a4a1d31006e3dfcceaf7822b65b49e6f432c401402462", func := "elenchus/elenchuslaw06.BankDoes", spec := "bankDoes", unfollowed := true, recurses := true, loops := true, plainKeys := false, apart := false, narrowed := true }
def BankDoesUptoSaid : Prop := bankDoesUptoRow.holds Try.pinned (OpenSpec.upto bankDoesSpec)

/-- 'elenchuslaw06.BankOnce', WHERE WHAT IT READS IS OF BULK AT MOST 1048576: true; the input reads as it did. -/
def bankOnceUptoRow : OpenClaim := { program := "ytkejacodofmlhaa", sum := "1f8856fe7fb18ae2ed8a4a1d31006e3dfcceaf7822b65b49e6f432c401402462", func := "elenchus/elenchuslaw06.BankOnce", spec := "bankOnce", unfollowed := true, recurses := true, loops := true, plainKeys := false, apart := false, narrowed := true }
def BankOnceUptoSaid : Prop := bankOnceUptoRow.holds Try.pinned (OpenSpec.upto bankOnceSpec)

/-- 'elenchuslaw06.BankFull', WHERE WHAT IT READS IS OF BULK AT MOST 1048576: true; the input reads as it did. -/
def bankFullUptoRow : OpenClaim := { program := "ytkejacodofmlhaa", sum := "1f8856fe7fb18ae2ed8a4a1d31006e3dfcceaf7822b65b49e6f432c401402462", func := "elenchus/elenchuslaw06.BankFull", spec := "bankFull", unfollowed := true, recurses := true, plainKeys := false, apart := false, narrowed := true }
def BankFullUptoSaid : Prop := bankFullUptoRow.holds Try.pinned (OpenSpec.upto bankFullSpec)

/-- 'elenchuslaw06.BankNil', WHERE WHAT IT READS IS OF BULK AT MOST 1048576: true; the input reads as it did. -/
def bankNilUptoRow : OpenClaim := { program := "ytkejacodofmlhaa", sum := "1f8856fe7fb18ae2ed8a4a1d31006e3dfcceaf7822b65b49e6f432c401402462", func := "elenchus/elenchuslaw06.BankNil", spec := "bankNil", unfollowed := true, recurses := true, loops := true, plainKeys := false, apart := false, narrowed := true }
def BankNilUptoSaid : Prop := bankNilUptoRow.holds Try.pinned (OpenSpec.upto bankNilSpec)

end Rows
end Go.Proofs.Ytkejacodofmlhaa
