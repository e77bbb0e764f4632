import Derived.Test.YtabfapijgfjflaaGreatMWa12
import Derived.Test.YtabfapijgfjflaaGreatMWRHo
import Derived.Test.YtabfapijgfjflaaGreatMAl
set_option linter.unusedVariables false
namespace Go.Proofs.YtabfapijgfjflaaGreat
open Go.RowKit
theorem afj(x0:Sg)(x1:Ip)(x2:List LV)(x3:Int)(a0:Option Addr)(c0:Nat)(a1:Option Addr)(c1:Nat)(a2:Option Addr)(c2:Nat)(W:World)(hw1:(Lit.int .i64 x1.size).wf=true)(hw3:(Lit.int .i64 x3).wf=true)(m0:aaX W.heap.size W x0 a0 c0)(m1:agB W.heap.size W x1.rows a1 c1)(m2:aaV W.heap.size W x2 a2 c2)(hl:x2.length<=2000000000000):
 Calls Tryz.prog 5 #[.slice a0 x0.length c0,ipV x1 a1 c1,.slice a2 x2.length c2,.int .i64 x3] W fun e w'=>e= .returned (.bool true)/\Below W.heap.size W w':=
 ahg afd aei ahh x0 x1 x2 x3 a0 c0 a1 c1 a2 c2 W hw1 hw3 m0 m1 m2 hl
end Go.Proofs.YtabfapijgfjflaaGreat
