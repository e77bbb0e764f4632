import Derived.Test.YtabfapijgfjflaaGreatMQBz29
import Derived.Test.YtabfapijgfjflaaGreatMQBz31
import Derived.Test.YtabfapijgfjflaaGreatMQBz32
import Derived.Test.YtabfapijgfjflaaGreatMAl
set_option linter.unusedVariables false
namespace Go.Proofs.YtabfapijgfjflaaGreat
open Go.RowKit
theorem ahh:auU:=fun w=>aow afd aei w
end Go.Proofs.YtabfapijgfjflaaGreat
