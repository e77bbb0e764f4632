import Derived.Test.YtabfapijgfjflaaGreatMQBu
import Derived.Test.YtabfapijgfjflaaGreatMQBz27
import Derived.Test.YtabfapijgfjflaaGreatMQBz28
import Derived.Test.YtabfapijgfjflaaGreatMQBp
import Derived.Laws.MakeOwn
import Derived.Test.YtabfapijgfjflaaGreatMAl
set_option linter.unusedVariables false
set_option linter.unusedSimpArgs false
set_option maxRecDepth 100000
set_option maxHeartbeats 4000000
namespace Go.Proofs.YtabfapijgfjflaaGreat
open Go.RowKit
theorem adP{z:Int}(h:1<=z):∀n,1<=abz z n
 |0=>by simp[abz]
 |n+1=>by
  have ih:=adP h n;rw[abz];have:=Int.mul_le_mul_of_nonneg_left h (show(0:Int)<=abz z n by omega);omega
theorem aqX{z:Int}(h:1<=z)(n:Nat):abz z n<=abz z (n+1):=by
 have:=Int.mul_le_mul_of_nonneg_left h (show(0:Int)<=abz z n by have:=adP h n;omega);rw[abz];omega
theorem aqY{z:Int}(h:1<=z){a b:Nat}(hab:a<=b):abz z a<=abz z b:=by
 induction hab with
 |refl=>exact Int.le_refl _
 |step _ ih=>exact Int.le_trans ih (aqX h _)
theorem asP(z:Int)(n:Nat)(h1:1<=z)(h2:z<=4)(hn:n<=1000000)(hp:abz z n<=100000)(w:World):
 Calls Tryz.prog 40 #[.int .i64 z,.int .i64 n] w fun e w'=>e= .returned (.int .i64 (abz z n))/\Below w.heap.size w w':=by
 go_enter Tryz.func40,Tryz.ntmps40;go_wp2
 go_loopw [5,6] (fun p i wr=>PwI z n w p i wr) (fun _ i _=>n-(intOf i).toNat)
 case atStart=>exact⟨0,by omega,rfl,rfl,rfl⟩
 case round=>
  obtain⟨k,hk,rfl,rfl,rfl⟩:=hrel;by_cases hlt:(k:Int)<(n:Int)
  ·have hw:IntKind.i64.wrap (abz z k*z)=abz z (k+1):=by
    have h3:=aqY (z:=z) h1 (show k+1<=n by omega);have h4:=adP h1 (k+1);exact IntWalk.i64_in _ (by rw[show abz z k*z=abz z (k+1) from rfl];omega)
   go_wp2
   go_roundw
   case rel=>exact⟨k+1,by omega,by go_num,rfl,rfl⟩
   case measure=>simp[intOf];omega
  ·obtain rfl:k=n:=by omega
   go_wp2;go_ret;exact⟨rfl,ag _ _⟩
def WaI(m:Ip)(f:List Int)(C:List Lt3)(w:World)(i:Value)(wr:World):Prop:=∃k:Nat,k<=C.length/\i= .int .i64 k/\aee m f (C.take k)=false/\Below w.heap.size w wr
theorem aqZ{m:Ip}{f:List Int}{C:List Lt3}{k:Nat}{x:Lt3}(h:C[k]? =some x):aee m f (C.take (k+1))=(aee m f (C.take k)||agC m f x.neg x.l x.r):=by
 unfold aee;rw[List.take_add_one,h];simp
theorem aq0{m:Ip}{f:List Int}{C:List Lt3}{k:Nat}(h:aee m f (C.take k)=true):aee m f C=true:=by
 unfold aee at h ⊢;obtain⟨x,hx,e⟩:=List.any_eq_true.1 h;exact List.any_eq_true.2 ⟨x,List.mem_of_mem_take hx,e⟩
theorem alc(g:Sg)(m:Ip)(hm:abg g m=true)(f:List Int)(hf:∀z∈f,0<=z/\z<m.size)(P:List LV)(hP0:∀x∈P,OkV g x.l/\OkV g x.r)(aM:Nat)(ma:Option Addr)(mc:Nat)(fa:Option Addr)(fc:Nat)(a:Option Addr)(c:Nat)(w:World)(hn:aM<=w.heap.size)(hM:agB aM w m.rows ma mc)(hF:acP aM w f fa fc)(hP:aaV aM w P a c):
 Calls Tryz.prog 44 #[ipV m ma mc,.slice fa f.length fc,.slice a P.length c] w fun e w'=>e= .returned (.bool (aee m f (t3s P)))/\Below w.heap.size w w':=by
 have hlc:P.length<=c/\c<=maxLen:=⟨hP.1,hP.2.1⟩;unfold maxLen at hlc;obtain⟨hl1,hl2⟩:=hlc;have D:=ae (((((aai.below (ag _ w)).and (ac6 (hP.mono hn))).and (afJ (hF.mono hn))).and (adb (hM.mono hn))).pushI (ag _ _) m ma mc);have HL:=ae (show(t3s P).length=P.length from by simp);have HP0:=ae hP0;have HF:=ae hf;clear hM hF hP hP0 hf;go_enter Tryz.func44,Tryz.ntmps44;go_wp2;generalize hw1:w.alloc (ipO m ma mc)=w1 at D ⊢;have hbw:Below w.heap.size w w1:=by rw[←hw1];exact(ag _ w).alloc (af _) _
 generalize hb0:w.heap.size=b0 at D hbw ⊢;have HB0:=ae hb0;have HBW:=ae hbw;clear hw1 hbw hb0
 go_loopw [7] (fun i wr=>WaI m f (t3s P) w1 i wr) (fun i _=>P.length-(intOf i).toNat)
 case atStart=>exact⟨0,Nat.zero_le _,rfl,rfl,ag _ _⟩
 case round=>
  obtain⟨k,hk,rfl,hno,hB⟩:=hrel;rw[HL.out] at hk;have DR:=ae (D.out.mv hB);have HB:=ae hB;have hbz:=hB.size;have HNO:=ae hno;clear hB hno;by_cases hlt:k<P.length
  ·obtain⟨⟨i0,i1⟩,hrs,his,hcl,_⟩:=DR.out.now;obtain⟨b,o,x,rfl,hb,hx,⟨a0,a1,a2,a3,a4⟩,hxl⟩:=hcl.elem (i:=k) hlt;have hk0:(0:Int)<=(k:Int):=aw _;have hk1:(k:Int)<(P.length:Int):=by omega
   have HX:=ae (aqZ (m:=m) (f:=f) (acr hx));have HT:=ae (aq0 (m:=m) (f:=f) (C:=t3s P) (k:=k+1));obtain⟨ok1,ok2⟩:=HP0.out x (ak hx);obtain⟨q,hq⟩:∃q,agC m f x.n x.l x.r=q:=⟨_,rfl⟩
   have CE:=ae (fun(W:World) (hW:Below wr.heap.size wr W)=>show Calls Tryz.prog 79 #[ipV m ma mc,.slice fa f.length fc,x.v] W (fun e w'=>e= .returned (.bool q)/\Below W.heap.size W w') from by
    have h:=akW g m hm f HF.out x ok1 ok2 wr.heap.size ma mc fa fc W hW.size (hrs.below hW) (his.below hW) (hxl.below hW);rw[hq] at h;exact h)
   rw[show agC m f x.t3.neg x.t3.l x.t3.r=q from hq] at HX;have f0:=fun d os=>cell_regrown a0 d os;have f1:=fun d os=>cell_regrown a1 d os;have f2:=fun d os=>cell_regrown a2 d os;have f3:=fun d os=>cell_regrown a3 d os;have f4:=fun d os=>cell_regrown a4 d os;have g0:=fun d os=>cell_regrown i0 d os;have g1:=fun d os=>cell_regrown i1 d os;clear hx hxl hq hcl hrs his ok1 ok2;go_wp2;refine aa2 (by kernel_rfl) (by kernel_rfl) ?_
   repeat (first
    |(refine WQ.skip (by rfl) ?_;simp only[Act.put,List.setIfInBounds_toArray,List.set_cons_succ,List.set_cons_zero])
    |(apply WQ.two (by rfl);(intro w' hw';obtain⟨pq,rfl⟩:=hw';go_simp;first|(with_reducible exact Calls.regrown_of (CE.out _ (below_regrown _ _ _)))|exact rfl);simp only[Act.put,List.setIfInBounds_toArray,List.set_cons_succ,List.set_cons_zero]))
   refine WQ.nil ?_;intro w6 hw'
   have HB3:=ae (show Below w1.heap.size w1 w6 from by
    obtain⟨⟨dq,osq⟩,rfl⟩:=hw';exact HB.out.trans ((below_regrown wr dq osq).mono hbz))
   clear hw' CE f0 f1 f2 f3 f4 g0 g1 a0 a1 a2 a3 a4 i0 i1;cases q with
   |true=>
    have HR:=ae (HT.out (by rw[HX.out,Bool.or_true]));have HRB:=ae (HBW.out.trans (HB3.out.mono (by have:=HBW.out.size;have:=HB0.out;omega)));go_wp2;go_ret;exact⟨by rw[HR.out];rfl,by rw[HB0.out];exact HRB.out⟩
   |false=>
    go_wp2
    go_roundw
    case rel=>exact⟨k+1,by rw[HL.out];omega,by go_num,by rw[HX.out,HNO.out];rfl,HB3.out⟩
    case measure=>simp[intOf];omega
  ·obtain rfl:k=P.length:=by omega
   have hno:=HNO.out;rw[List.take_of_length_le (by rw[HL.out];exact af _)] at hno;have HR:=ae hno;have HRB:=ae (HBW.out.trans (HB.out.mono (by have:=HBW.out.size;have:=HB0.out;omega)));clear hno DR;go_wp2;go_ret;exact⟨by rw[HR.out];rfl,by rw[HB0.out];exact HRB.out⟩
end Go.Proofs.YtabfapijgfjflaaGreat
