/- Reading signatures out of memory. -/
import Derived.Test.YtbdabdjpgmnejaaLaw
import Derived.Test.YtbdabdjpgmnejaaQBe
import Derived.ChangeMaps5
namespace Go.Proofs.Ytbdabdjpgmnejaa
set_option linter.unusedVariables false
set_option linter.unusedSimpArgs false
set_option maxRecDepth 100000
open Go.ChangeShapes Go.WideShapes Go.ChangeAt Go.RowKit Go.Joins
theorem cellsBool : Try.prog.cellsOf 4 = 1 := by kernel_rfl
section
variable {H : Type} {enc : TypeId × Value → H} {w : World} {sp : Nat → Bool} {hd : Bool}
end
end Go.Proofs.Ytbdabdjpgmnejaa
