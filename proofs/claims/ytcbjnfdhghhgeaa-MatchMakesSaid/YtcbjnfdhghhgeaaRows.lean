/-
  NARROWER THAN 'FOR EVERY INPUT', by the rows' own cells (each row's printed sentence says how): SubstThen: loops · UnifyMakes: loops · UnifyMost: loops · UnifySides: loops · UnifyShifted: loops · MatchMakes: loops · MatchNorms: loops · MatchSolves: loops · MatchVariants: loops · MatchBehind: loops · MatchUnifies: loops.
  DERIVED. THE GIVEN ROWS OF THIS SEAT. 11 by the template 'for every input the law returns true; each argument reads behind the call as it read before'; 0 by the template 'total and deterministic' (their statements: YtcbjnfdhghhgeaaTotals.lean).
  GIVEN WITH THE SEED: the statements are not yours to turn. If you find one false, say at which input.
  Laid BY PROGRAM, IN A SANDBOX (cutbox-rows.mjs): the forced cells as the released guide's own fill.sh prints them over the translation 37c7a7e2ba6633c6… (all of the seat's roots in one cut). By AI agents, Wed Nov 11 2026. No macro, syntax, notation, axiom, sorry.
-/
import Derived.Test.YtcbjnfdhghhgeaaChecked
import GoSem.Claim
import GoSem.ClaimJoined
import GoSem.ClaimMapViews
import Derived.JoinedTies
import Derived.KernelRfl
namespace Go.Proofs.Ytcbjnfdhghhgeaa
/- THE CELL 'sum', in the pinned program and in every row, IS THE sha256 OF THE DUMP (.gsa) THAT YtcbjnfdhghhgeaaProg.lean LOADS. Nothing in Lean hashes anything: it is a label: what it is worth is what the hold of that sum in a sandbox is worth. -/
noncomputable def Try.pinned : Pinned := { name := "ytcbjnfdhghhgeaa", sum := "37c7a7e2ba6633c625e25808facccd6249adc6fde9abad851fb64918b2292e37", checked := Try.checked }
namespace Rows
def none {H : Type} : Left H := { results := [], args := [] }

/-- 'elenchuslaw03.SubstThen': WHATEVER THE INPUT: true; the input reads as it did. -/
def substThenSpec : ChangeSpec := { name := "substThen", fn := fun _ => fun
  | [d1, d2, d3] => { results := [.lit (.bool true)], args := [d1, d2, d3] }
  | _ => none }
def substThenRow : OpenClaim := { program := "ytcbjnfdhghhgeaa", sum := "37c7a7e2ba6633c625e25808facccd6249adc6fde9abad851fb64918b2292e37", func := "elenchus/elenchuslaw03.SubstThen", spec := "substThen", unfollowed := true, recurses := true, loops := true, apart := false }
def SubstThenSaid : Prop := substThenRow.holds Try.pinned (OpenSpec.ofChange substThenSpec)

/-- ITS FALSE NEIGHBOUR: 'it returns false'. Refute it at one input. -/
def substThenWrong : ChangeSpec := { name := "substThen", fn := fun _ => fun
  | [d1, d2, d3] => { results := [.lit (.bool false)], args := [d1, d2, d3] }
  | _ => none }
def SubstThenWrongFalsely : Prop := substThenRow.holds Try.pinned (OpenSpec.ofChange substThenWrong)

/-- 'elenchuslaw04.UnifyMakes': WHATEVER THE INPUT: true; the input reads as it did. -/
def unifyMakesSpec : ChangeSpec := { name := "unifyMakes", fn := fun _ => fun
  | [d1, d2] => { results := [.lit (.bool true)], args := [d1, d2] }
  | _ => none }
def unifyMakesRow : OpenClaim := { program := "ytcbjnfdhghhgeaa", sum := "37c7a7e2ba6633c625e25808facccd6249adc6fde9abad851fb64918b2292e37", func := "elenchus/elenchuslaw04.UnifyMakes", spec := "unifyMakes", unfollowed := true, recurses := true, loops := true, apart := false }
def UnifyMakesSaid : Prop := unifyMakesRow.holds Try.pinned (OpenSpec.ofChange unifyMakesSpec)

/-- ITS FALSE NEIGHBOUR: 'it returns false'. Refute it at one input. -/
def unifyMakesWrong : ChangeSpec := { name := "unifyMakes", fn := fun _ => fun
  | [d1, d2] => { results := [.lit (.bool false)], args := [d1, d2] }
  | _ => none }
def UnifyMakesWrongFalsely : Prop := unifyMakesRow.holds Try.pinned (OpenSpec.ofChange unifyMakesWrong)

/-- 'elenchuslaw04.UnifyMost': WHATEVER THE INPUT: true; the input reads as it did. -/
def unifyMostSpec : ChangeSpec := { name := "unifyMost", fn := fun _ => fun
  | [d1, d2, d3] => { results := [.lit (.bool true)], args := [d1, d2, d3] }
  | _ => none }
def unifyMostRow : OpenClaim := { program := "ytcbjnfdhghhgeaa", sum := "37c7a7e2ba6633c625e25808facccd6249adc6fde9abad851fb64918b2292e37", func := "elenchus/elenchuslaw04.UnifyMost", spec := "unifyMost", unfollowed := true, recurses := true, loops := true, apart := false }
def UnifyMostSaid : Prop := unifyMostRow.holds Try.pinned (OpenSpec.ofChange unifyMostSpec)

/-- ITS FALSE NEIGHBOUR: 'it returns false'. Refute it at one input. -/
def unifyMostWrong : ChangeSpec := { name := "unifyMost", fn := fun _ => fun
  | [d1, d2, d3] => { results := [.lit (.bool false)], args := [d1, d2, d3] }
  | _ => none }
def UnifyMostWrongFalsely : Prop := unifyMostRow.holds Try.pinned (OpenSpec.ofChange unifyMostWrong)

/-- 'elenchuslaw04.UnifySides': WHATEVER THE INPUT: true; the input reads as it did. -/
def unifySidesSpec : ChangeSpec := { name := "unifySides", fn := fun _ => fun
  | [d1, d2, d3] => { results := [.lit (.bool true)], args := [d1, d2, d3] }
  | _ => none }
def unifySidesRow : OpenClaim := { program := "ytcbjnfdhghhgeaa", sum := "37c7a7e2ba6633c625e25808facccd6249adc6fde9abad851fb64918b2292e37", func := "elenchus/elenchuslaw04.UnifySides", spec := "unifySides", unfollowed := true, recurses := true, loops := true, apart := false }
def UnifySidesSaid : Prop := unifySidesRow.holds Try.pinned (OpenSpec.ofChange unifySidesSpec)

/-- ITS FALSE NEIGHBOUR: 'it returns false'. Refute it at one input. -/
def unifySidesWrong : ChangeSpec := { name := "unifySides", fn := fun _ => fun
  | [d1, d2, d3] => { results := [.lit (.bool false)], args := [d1, d2, d3] }
  | _ => none }
def UnifySidesWrongFalsely : Prop := unifySidesRow.holds Try.pinned (OpenSpec.ofChange unifySidesWrong)

/-- 'elenchuslaw04.UnifyShifted': WHATEVER THE INPUT: true; the input reads as it did. -/
def unifyShiftedSpec : ChangeSpec := { name := "unifyShifted", fn := fun _ => fun
  | [d1, d2] => { results := [.lit (.bool true)], args := [d1, d2] }
  | _ => none }
def unifyShiftedRow : OpenClaim := { program := "ytcbjnfdhghhgeaa", sum := "37c7a7e2ba6633c625e25808facccd6249adc6fde9abad851fb64918b2292e37", func := "elenchus/elenchuslaw04.UnifyShifted", spec := "unifyShifted", unfollowed := true, recurses := true, loops := true, apart := false }
def UnifyShiftedSaid : Prop := unifyShiftedRow.holds Try.pinned (OpenSpec.ofChange unifyShiftedSpec)

/-- ITS FALSE NEIGHBOUR: 'it returns false'. Refute it at one input. -/
def unifyShiftedWrong : ChangeSpec := { name := "unifyShifted", fn := fun _ => fun
  | [d1, d2] => { results := [.lit (.bool false)], args := [d1, d2] }
  | _ => none }
def UnifyShiftedWrongFalsely : Prop := unifyShiftedRow.holds Try.pinned (OpenSpec.ofChange unifyShiftedWrong)

/-- 'elenchuslaw05.MatchMakes': WHATEVER THE INPUT: true; the input reads as it did. -/
def matchMakesSpec : ChangeSpec := { name := "matchMakes", fn := fun _ => fun
  | [d1, d2] => { results := [.lit (.bool true)], args := [d1, d2] }
  | _ => none }
def matchMakesRow : OpenClaim := { program := "ytcbjnfdhghhgeaa", sum := "37c7a7e2ba6633c625e25808facccd6249adc6fde9abad851fb64918b2292e37", func := "elenchus/elenchuslaw05.MatchMakes", spec := "matchMakes", unfollowed := true, recurses := true, loops := true, apart := false }
def MatchMakesSaid : Prop := matchMakesRow.holds Try.pinned (OpenSpec.ofChange matchMakesSpec)

/-- ITS FALSE NEIGHBOUR: 'it returns false'. Refute it at one input. -/
def matchMakesWrong : ChangeSpec := { name := "matchMakes", fn := fun _ => fun
  | [d1, d2] => { results := [.lit (.bool false)], args := [d1, d2] }
  | _ => none }
def MatchMakesWrongFalsely : Prop := matchMakesRow.holds Try.pinned (OpenSpec.ofChange matchMakesWrong)

/-- 'elenchuslaw05.MatchNorms': WHATEVER THE INPUT: true; the input reads as it did. -/
def matchNormsSpec : ChangeSpec := { name := "matchNorms", fn := fun _ => fun
  | [d1, d2, d3] => { results := [.lit (.bool true)], args := [d1, d2, d3] }
  | _ => none }
def matchNormsRow : OpenClaim := { program := "ytcbjnfdhghhgeaa", sum := "37c7a7e2ba6633c625e25808facccd6249adc6fde9abad851fb64918b2292e37", func := "elenchus/elenchuslaw05.MatchNorms", spec := "matchNorms", unfollowed := true, recurses := true, loops := true, apart := false }
def MatchNormsSaid : Prop := matchNormsRow.holds Try.pinned (OpenSpec.ofChange matchNormsSpec)

/-- ITS FALSE NEIGHBOUR: 'it returns false'. Refute it at one input. -/
def matchNormsWrong : ChangeSpec := { name := "matchNorms", fn := fun _ => fun
  | [d1, d2, d3] => { results := [.lit (.bool false)], args := [d1, d2, d3] }
  | _ => none }
def MatchNormsWrongFalsely : Prop := matchNormsRow.holds Try.pinned (OpenSpec.ofChange matchNormsWrong)

/-- 'elenchuslaw05.MatchSolves': WHATEVER THE INPUT: true; the input reads as it did. -/
def matchSolvesSpec : ChangeSpec := { name := "matchSolves", fn := fun _ => fun
  | [d1, d2] => { results := [.lit (.bool true)], args := [d1, d2] }
  | _ => none }
def matchSolvesRow : OpenClaim := { program := "ytcbjnfdhghhgeaa", sum := "37c7a7e2ba6633c625e25808facccd6249adc6fde9abad851fb64918b2292e37", func := "elenchus/elenchuslaw05.MatchSolves", spec := "matchSolves", unfollowed := true, recurses := true, loops := true, apart := false }
def MatchSolvesSaid : Prop := matchSolvesRow.holds Try.pinned (OpenSpec.ofChange matchSolvesSpec)

/-- ITS FALSE NEIGHBOUR: 'it returns false'. Refute it at one input. -/
def matchSolvesWrong : ChangeSpec := { name := "matchSolves", fn := fun _ => fun
  | [d1, d2] => { results := [.lit (.bool false)], args := [d1, d2] }
  | _ => none }
def MatchSolvesWrongFalsely : Prop := matchSolvesRow.holds Try.pinned (OpenSpec.ofChange matchSolvesWrong)

/-- 'elenchuslaw05.MatchVariants': WHATEVER THE INPUT: true; the input reads as it did. -/
def matchVariantsSpec : ChangeSpec := { name := "matchVariants", fn := fun _ => fun
  | [d1, d2] => { results := [.lit (.bool true)], args := [d1, d2] }
  | _ => none }
def matchVariantsRow : OpenClaim := { program := "ytcbjnfdhghhgeaa", sum := "37c7a7e2ba6633c625e25808facccd6249adc6fde9abad851fb64918b2292e37", func := "elenchus/elenchuslaw05.MatchVariants", spec := "matchVariants", unfollowed := true, recurses := true, loops := true, apart := false }
def MatchVariantsSaid : Prop := matchVariantsRow.holds Try.pinned (OpenSpec.ofChange matchVariantsSpec)

/-- ITS FALSE NEIGHBOUR: 'it returns false'. Refute it at one input. -/
def matchVariantsWrong : ChangeSpec := { name := "matchVariants", fn := fun _ => fun
  | [d1, d2] => { results := [.lit (.bool false)], args := [d1, d2] }
  | _ => none }
def MatchVariantsWrongFalsely : Prop := matchVariantsRow.holds Try.pinned (OpenSpec.ofChange matchVariantsWrong)

/-- 'elenchuslaw05.MatchBehind': WHATEVER THE INPUT: true; the input reads as it did. -/
def matchBehindSpec : ChangeSpec := { name := "matchBehind", fn := fun _ => fun
  | [d1, d2, d3] => { results := [.lit (.bool true)], args := [d1, d2, d3] }
  | _ => none }
def matchBehindRow : OpenClaim := { program := "ytcbjnfdhghhgeaa", sum := "37c7a7e2ba6633c625e25808facccd6249adc6fde9abad851fb64918b2292e37", func := "elenchus/elenchuslaw05.MatchBehind", spec := "matchBehind", unfollowed := true, recurses := true, loops := true, apart := false }
def MatchBehindSaid : Prop := matchBehindRow.holds Try.pinned (OpenSpec.ofChange matchBehindSpec)

/-- ITS FALSE NEIGHBOUR: 'it returns false'. Refute it at one input. -/
def matchBehindWrong : ChangeSpec := { name := "matchBehind", fn := fun _ => fun
  | [d1, d2, d3] => { results := [.lit (.bool false)], args := [d1, d2, d3] }
  | _ => none }
def MatchBehindWrongFalsely : Prop := matchBehindRow.holds Try.pinned (OpenSpec.ofChange matchBehindWrong)

/-- 'elenchuslaw05.MatchUnifies': WHATEVER THE INPUT: true; the input reads as it did. -/
def matchUnifiesSpec : ChangeSpec := { name := "matchUnifies", fn := fun _ => fun
  | [d1, d2] => { results := [.lit (.bool true)], args := [d1, d2] }
  | _ => none }
def matchUnifiesRow : OpenClaim := { program := "ytcbjnfdhghhgeaa", sum := "37c7a7e2ba6633c625e25808facccd6249adc6fde9abad851fb64918b2292e37", func := "elenchus/elenchuslaw05.MatchUnifies", spec := "matchUnifies", unfollowed := true, recurses := true, loops := true, apart := false }
def MatchUnifiesSaid : Prop := matchUnifiesRow.holds Try.pinned (OpenSpec.ofChange matchUnifiesSpec)

/-- ITS FALSE NEIGHBOUR: 'it returns false'. Refute it at one input. -/
def matchUnifiesWrong : ChangeSpec := { name := "matchUnifies", fn := fun _ => fun
  | [d1, d2] => { results := [.lit (.bool false)], args := [d1, d2] }
  | _ => none }
def MatchUnifiesWrongFalsely : Prop := matchUnifiesRow.holds Try.pinned (OpenSpec.ofChange matchUnifiesWrong)

/- THE SECOND FORM. 'bulk': how many values and letters a reading holds, each counted each time it is reached (what is shared counts as often as it is met; a slice's spare places count too). A statement '..UptoSaid' is the law's where the arguments, and the package variables that the reading takes, are together of bulk at most 1048576: NARROWER than '..Said'. Prove '..Said' where nothing that the law and all that it calls make is longer than what came in: it says more and counts as full. Else prove '..UptoSaid'. A law counts once. -/
mutual
def uptoBulk {H : Type} : DataW H → Nat
  | .lit (.string bytes) => bytes.length + 1
  | .lit _ => 1
  | .nil => 1
  | .ptr d => uptoBulk d + 1
  | .slice elems spare => uptoBulkAll elems + uptoBulkAll spare + 1
  | .agg parts => uptoBulkAll parts + 1
  | .iface _ d => uptoBulk d + 1
  | .map entries => uptoBulkEntries entries + 1
  | .held _ => 1
def uptoBulkAll {H : Type} : List (DataW H) → Nat
  | [] => 0
  | d :: r => uptoBulk d + uptoBulkAll r
def uptoBulkEntries {H : Type} : List (Lit × DataW H) → Nat
  | [] => 0
  | x :: r => uptoBulkEntry x + uptoBulkEntries r
def uptoBulkEntry {H : Type} : Lit × DataW H → Nat
  | (.string bytes, d) => bytes.length + uptoBulk d + 1
  | (_, d) => uptoBulk d + 1
 end
def uptoSmall : (H : Type) → List (DataW H) → Bool := fun _ ds => decide (uptoBulkAll ds ≤ 1048576)
def OpenSpec.upto (s : _root_.Go.ChangeSpec) : _root_.Go.OpenSpec := { _root_.Go.OpenSpec.ofChange s with cond := some uptoSmall }

/-- 'elenchuslaw03.SubstThen', WHERE WHAT IT READS IS OF BULK AT MOST 1048576: true; the input reads as it did. -/
def substThenUptoRow : OpenClaim := { program := "ytcbjnfdhghhgeaa", sum := "37c7a7e2ba6633c625e25808facccd6249adc6fde9abad851fb64918b2292e37", func := "elenchus/elenchuslaw03.SubstThen", spec := "substThen", unfollowed := true, recurses := true, loops := true, apart := false, narrowed := true }
def SubstThenUptoSaid : Prop := substThenUptoRow.holds Try.pinned (OpenSpec.upto substThenSpec)

/-- 'elenchuslaw04.UnifyMakes', WHERE WHAT IT READS IS OF BULK AT MOST 1048576: true; the input reads as it did. -/
def unifyMakesUptoRow : OpenClaim := { program := "ytcbjnfdhghhgeaa", sum := "37c7a7e2ba6633c625e25808facccd6249adc6fde9abad851fb64918b2292e37", func := "elenchus/elenchuslaw04.UnifyMakes", spec := "unifyMakes", unfollowed := true, recurses := true, loops := true, apart := false, narrowed := true }
def UnifyMakesUptoSaid : Prop := unifyMakesUptoRow.holds Try.pinned (OpenSpec.upto unifyMakesSpec)

/-- 'elenchuslaw04.UnifyMost', WHERE WHAT IT READS IS OF BULK AT MOST 1048576: true; the input reads as it did. -/
def unifyMostUptoRow : OpenClaim := { program := "ytcbjnfdhghhgeaa", sum := "37c7a7e2ba6633c625e25808facccd6249adc6fde9abad851fb64918b2292e37", func := "elenchus/elenchuslaw04.UnifyMost", spec := "unifyMost", unfollowed := true, recurses := true, loops := true, apart := false, narrowed := true }
def UnifyMostUptoSaid : Prop := unifyMostUptoRow.holds Try.pinned (OpenSpec.upto unifyMostSpec)

/-- 'elenchuslaw04.UnifySides', WHERE WHAT IT READS IS OF BULK AT MOST 1048576: true; the input reads as it did. -/
def unifySidesUptoRow : OpenClaim := { program := "ytcbjnfdhghhgeaa", sum := "37c7a7e2ba6633c625e25808facccd6249adc6fde9abad851fb64918b2292e37", func := "elenchus/elenchuslaw04.UnifySides", spec := "unifySides", unfollowed := true, recurses := true, loops := true, apart := false, narrowed := true }
def UnifySidesUptoSaid : Prop := unifySidesUptoRow.holds Try.pinned (OpenSpec.upto unifySidesSpec)

/-- 'elenchuslaw04.UnifyShifted', WHERE WHAT IT READS IS OF BULK AT MOST 1048576: true; the input reads as it did. -/
def unifyShiftedUptoRow : OpenClaim := { program := "ytcbjnfdhghhgeaa", sum := "37c7a7e2ba6633c625e25808facccd6249adc6fde9abad851fb64918b2292e37", func := "elenchus/elenchuslaw04.UnifyShifted", spec := "unifyShifted", unfollowed := true, recurses := true, loops := true, apart := false, narrowed := true }
def UnifyShiftedUptoSaid : Prop := unifyShiftedUptoRow.holds Try.pinned (OpenSpec.upto unifyShiftedSpec)

/-- 'elenchuslaw05.MatchMakes', WHERE WHAT IT READS IS OF BULK AT MOST 1048576: true; the input reads as it did. -/
def matchMakesUptoRow : OpenClaim := { program := "ytcbjnfdhghhgeaa", sum := "37c7a7e2ba6633c625e25808facccd6249adc6fde9abad851fb64918b2292e37", func := "elenchus/elenchuslaw05.MatchMakes", spec := "matchMakes", unfollowed := true, recurses := true, loops := true, apart := false, narrowed := true }
def MatchMakesUptoSaid : Prop := matchMakesUptoRow.holds Try.pinned (OpenSpec.upto matchMakesSpec)

/-- 'elenchuslaw05.MatchNorms', WHERE WHAT IT READS IS OF BULK AT MOST 1048576: true; the input reads as it did. -/
def matchNormsUptoRow : OpenClaim := { program := "ytcbjnfdhghhgeaa", sum := "37c7a7e2ba6633c625e25808facccd6249adc6fde9abad851fb64918b2292e37", func := "elenchus/elenchuslaw05.MatchNorms", spec := "matchNorms", unfollowed := true, recurses := true, loops := true, apart := false, narrowed := true }
def MatchNormsUptoSaid : Prop := matchNormsUptoRow.holds Try.pinned (OpenSpec.upto matchNormsSpec)

/-- 'elenchuslaw05.MatchSolves', WHERE WHAT IT READS IS OF BULK AT MOST 1048576: true; the input reads as it did. -/
def matchSolvesUptoRow : OpenClaim := { program := "ytcbjnfdhghhgeaa", sum := "37c7a7e2ba6633c625e25808facccd6249adc6fde9abad851fb64918b2292e37", func := "elenchus/elenchuslaw05.MatchSolves", spec := "matchSolves", unfollowed := true, recurses := true, loops := true, apart := false, narrowed := true }
def MatchSolvesUptoSaid : Prop := matchSolvesUptoRow.holds Try.pinned (OpenSpec.upto matchSolvesSpec)

/-- 'elenchuslaw05.MatchVariants', WHERE WHAT IT READS IS OF BULK AT MOST 1048576: true; the input reads as it did. -/
def matchVariantsUptoRow : OpenClaim := { program := "ytcbjnfdhghhgeaa", sum := "37c7a7e2ba6633c625e25808facccd6249adc6fde9abad851fb64918b2292e37", func := "elenchus/elenchuslaw05.MatchVariants", spec := "matchVariants", unfollowed := true, recurses := true, loops := true, apart := false, narrowed := true }
def MatchVariantsUptoSaid : Prop := matchVariantsUptoRow.holds Try.pinned (OpenSpec.upto matchVariantsSpec)

/-- 'elenchuslaw05.MatchBehind', WHERE WHAT IT READS IS OF BULK AT MOST 1048576: true; the input reads as it did. -/
def matchBehindUptoRow : OpenClaim := { program := "ytcbjnfdhghhgeaa", sum := "37c7a7e2ba6633c625e25808facccd6249adc6fde9abad851fb64918b2292e37", func := "elenchus/elenchuslaw05.MatchBehind", spec := "matchBehind", unfollowed := true, recurses := true, loops := true, apart := false, narrowed := true }
def MatchBehindUptoSaid : Prop := matchBehindUptoRow.holds Try.pinned (OpenSpec.upto matchBehindSpec)

/-- 'elenchuslaw05.MatchUnifies', WHERE WHAT IT READS IS OF BULK AT MOST 1048576: true; the input reads as it did. -/
def matchUnifiesUptoRow : OpenClaim := { program := "ytcbjnfdhghhgeaa", sum := "37c7a7e2ba6633c625e25808facccd6249adc6fde9abad851fb64918b2292e37", func := "elenchus/elenchuslaw05.MatchUnifies", spec := "matchUnifies", unfollowed := true, recurses := true, loops := true, apart := false, narrowed := true }
def MatchUnifiesUptoSaid : Prop := matchUnifiesUptoRow.holds Try.pinned (OpenSpec.upto matchUnifiesSpec)

end Rows
end Go.Proofs.Ytcbjnfdhghhgeaa
