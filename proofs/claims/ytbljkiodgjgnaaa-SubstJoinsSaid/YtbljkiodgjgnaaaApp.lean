/- App: and offsets. -/
import Derived.Test.YtbljkiodgjgnaaaAp0
import Derived.Test.YtbljkiodgjgnaaaTab
import Derived.Test.YtbljkiodgjgnaaaSOf
namespace Go.Proofs.Ytbljkiodgjgnaaa
set_option linter.unusedVariables false
set_option linter.unusedSimpArgs false
open Go.RowKit

theorem enters_off : ∀ args W, (callFunc 69 args).run Try.prog W = .ok (.enter 69 args) W := enters_of Try.func69 (by kernel_rfl) rfl

end Go.Proofs.Ytbljkiodgjgnaaa
