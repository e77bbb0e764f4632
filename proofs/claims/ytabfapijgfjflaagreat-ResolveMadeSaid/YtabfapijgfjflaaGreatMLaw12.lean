import Derived.Test.YtabfapijgfjflaaGreatMQBz
import Derived.SizedLaws
import Derived.Test.YtabfapijgfjflaaGreatMAl
set_option linter.unusedVariables false
set_option linter.unusedSimpArgs false
namespace Go.Proofs.YtabfapijgfjflaaGreat
open Go.ChangeShapes Go.WideShapes Go.ChangeAt Go.RowKit Go.Joins
section
variable {H:Type} {enc:TypeId×Value->H} {w:World} {sp:Nat->Bool} {hd:Bool}
theorem are:Tryz.prog.bytesOf 62=72:=by kernel_rfl
theorem amq{ts:List TypeId}{ds:List (DataW H)}(hw:(DataW.weightsEach Tryz.prog ts ds).all (· <=reachBytes)=true){j:Nat}{d:DataW H}{p:List MemPlace}(ht:ts[j]? =some 23)(hds:ds[j]? =some d){a:Option Addr}{l c:Nat}(h:DataW.Trod enc Tryz.prog w 0 sp hd 23 (.slice a l c) d p):l<=2000000000000:=by
 obtain⟨n,hn⟩:=h
 rcases DataW.trod_slice Tryz.underlying23 hn with⟨e,_⟩|⟨a',len,cap,elems,rest,m,hm,e,hx,_,hlc,hcm,hel,_⟩
 ·simp[Value.cells] at e;omega
 ·simp[Value.cells] at e;simp only[Prod.mk.injEq] at hx;rw[hx.1] at hds;have h2:=sized_slice hw ht hds Tryz.underlying23;rw[are,List.length_map,List.length_map] at h2;unfold reachBytes at h2;omega
end
end Go.Proofs.YtabfapijgfjflaaGreat
