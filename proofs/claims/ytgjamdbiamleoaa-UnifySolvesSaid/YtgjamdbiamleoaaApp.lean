/- App: and offsets. -/
import Derived.Test.YtgjamdbiamleoaaAp0
import Derived.Test.YtgjamdbiamleoaaTab
import Derived.Test.YtgjamdbiamleoaaSOf
namespace Go.Proofs.Ytgjamdbiamleoaa
set_option linter.unusedVariables false
set_option linter.unusedSimpArgs false
open Go.RowKit

theorem enters_off : ∀ args W, (callFunc 61 args).run Try.prog W = .ok (.enter 61 args) W := enters_of Try.func61 (by kernel_rfl) rfl

end Go.Proofs.Ytgjamdbiamleoaa
