import Derived.Test.YtabfapijgfjflaaGreatMWa12
import Derived.Test.YtabfapijgfjflaaGreatMWRMa
import Derived.Test.YtabfapijgfjflaaGreatMAl
set_option linter.unusedVariables false
namespace Go.Proofs.YtabfapijgfjflaaGreat
open Go.RowKit
theorem afI(x0:Sg)(x1:List LV)(x2:Int)(a0:Option Addr)(c0:Nat)(a1:Option Addr)(c1:Nat)(W:World)(hw2:(Lit.int .i64 x2).wf=true)(m0:aaX W.heap.size W x0 a0 c0)(m1:aaV W.heap.size W x1 a1 c1)(hl:x1.length<=2000000000000):
 Calls Tryz.prog 6 #[.slice a0 x0.length c0,.slice a1 x1.length c1,.int .i64 x2] W fun e w'=>e= .returned (.bool true)/\Below W.heap.size W w':=
 ahH afd aei ahh x0 x1 x2 a0 c0 a1 c1 W hw2 m0 m1 hl
end Go.Proofs.YtabfapijgfjflaaGreat
