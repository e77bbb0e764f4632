import Derived.Test.YtabfapijgfjflaaGreatMWh
import Derived.Test.YtabfapijgfjflaaGreatMQBp
import Derived.Deep.AppendLies
import Derived.Deep.RegionLaw
import Derived.Test.YtabfapijgfjflaaGreatMAl
set_option linter.unusedVariables false
set_option linter.unusedSimpArgs false
set_option maxRecDepth 100000
set_option maxHeartbeats 4000000
namespace Go.Proofs.YtabfapijgfjflaaGreat
open Go.RowKit
theorem afE(P:List LV)(hl:P.length<=1000000)(aM:Nat)(a:Option Addr)(c:Nat)(w:World)(hn:aM<=w.heap.size)(hP:aaV aM w P a c):
 Calls Tryz.prog 42 #[.slice a P.length c] w (atc (aad (t3s P)) w):=by
 have hlc:P.length<=c/\c<=maxLen:=⟨hP.1,hP.2.1⟩;unfold maxLen at hlc;obtain⟨hl1,hl2⟩:=hlc;have HP:=ae (hP.mono hn);clear hP;go_enter Tryz.func42,Tryz.ntmps42;go_wp2
 go_loopw [3,4] (fun ov i wr=>awS P w ov i wr) (fun _ i _=>P.length-(intOf i).toNat)
 case atStart=>exact⟨0,Nat.zero_le _,rfl,OA.nil _ _,ag _ _⟩
 case round=>
  obtain⟨k,hk,rfl,hO,hB⟩:=hrel;have HO:=ae hO;have HB:=ae hB;have hbz:=hB.size;clear hO hB;by_cases hlt:k<P.length
  ·obtain⟨b,o,x,rfl,hb,hx,⟨a0,a1,a2,a3,a4⟩,hxl⟩:=(HP.out.below HB.out).elem (i:=k) hlt;have HX:=ae (And.intro hx hxl);have hk0:(0:Int)<=(k:Int):=aw _;have hk1:(k:Int)<(P.length:Int):=by omega
   have hbw:b<wr.heap.size:=by omega
   clear hx hxl a0;go_wp2;have hbd:Below wr.heap.size wr wr.drew:=(ag _ _).drew;obtain⟨xs,hown,hrv⟩:=HO.out;have hln:(aad (t3s (P.take k))).length=2*k:=by rw[ab8];simp;omega
   rw[hln] at hown;have HRV:=ae hrv;have HOWN:=ae hown;have HBD:=ae hbd;have HLN:=ae hln;have hkm:2*k+2<=maxLen:=by unfold maxLen;omega
   clear hrv hown hbd hln;obtain⟨i0,hi,hz0,hz1,hz2⟩:=info_parts acX
   go_region_law (refine step_append_lies _ (by rfl) _ _ _ (by rfl) w.heap.size 60 i0 _ 2 32 Tryz.underlying58 hi hz0 hz1 hz2 rfl (by omega) u3 (2*k) xs (by rfl) ((aaM HOWN.out HBD.out).alloc _) ⟨wr.drew.heap.size,0,none⟩ 2 2 [.int .i64 x.l.head,.slice x.pa x.l.args.length x.ca,.int .i64 x.r.head,.slice x.pb x.r.args.length x.cb] (by rfl) (by rfl) (World.news_of_block (cs:=#[.int .i64 x.l.head,.slice x.pa x.l.args.length x.ca,.int .i64 x.r.head,.slice x.pb x.r.args.length x.cb]) (t:=60) (fr:=(0,0)) (heap_alloc_new wr.drew _)) (by simp[Value.oneCell']) (by omega) hkm (by omega) (by simp;omega) (wr.drew.heap.size+1) (by simp) ?_;intro g cap w8 hown8 hgrow8 hat8 hlt8)
   all_goals
    have hal:Below wr.heap.size wr (wr.drew.alloc (.cells #[.int .i64 x.l.head,.slice x.pa x.l.args.length x.ca,.int .i64 x.r.head,.slice x.pb x.r.args.length x.cb] 60)):=HBD.out.alloc HBD.out.size _;have hg8:Below w.heap.size wr w8:=(hal.mono hbz).trans ((ag w.heap.size _).grown hgrow8 (by simp;omega) (fun q hq=>(HOWN.out.lt q hq).1));have hxl:=HX.out.2
    have HO5:=ae (show OA w.heap.size (.slice (some ⟨g,0,none⟩) (2*k+2) cap) (aad (t3s (P.take k))++[x.l,x.r]) w8 from
     ⟨xs++[.int .i64 x.l.head,.slice x.pa x.l.args.length x.ca,.int .i64 x.r.head,.slice x.pb x.r.args.length x.cb],by rw[aK,HLN.out];exact hown8,(aal.append (show aal (· <w.heap.size) wr [x.l,x.r] [.int .i64 x.l.head,.slice x.pa x.l.args.length x.ca,.int .i64 x.r.head,.slice x.pb x.r.args.length x.cb] from⟨hxl.lw,rfl,⟨_,_,rfl,aao.2 hxl.la⟩,hxl.rw,rfl,⟨_,_,rfl,aao.2 hxl.ra⟩,trivial⟩) HRV.out).keep (fun b hb=>hg8.block b hb) (fun _ x=>x)⟩)
    have HB5:=ae (HB.out.trans hg8);clear hal hg8 hxl hown8 hgrow8 hat8 hlt8 hi hz0 hz1 hz2;go_wp2
    go_roundw
    case rel=>exact⟨k+1,by omega,by go_num,by rw[ad9 HX.out.1];exact HO5.out,HB5.out⟩
    case measure=>simp[intOf];omega
  ·obtain rfl:k=P.length:=by omega
   have hO:=HO.out;rw[List.take_length] at hO;obtain⟨p,c',rfl,hR⟩:=hO.args hbz;have HR:=ae hR;clear hR hO;go_wp2;go_ret;exact⟨p,c',rfl,HR.out,HB.out⟩
def acv(C:List Lt3):List Int:=T.rvs [] (aad C)
def WmI(z:Int)(vs:List Int)(w:World)(nv iv:Value)(wr:World):Prop:=∃k:Nat,k<=vs.length/\iv= .int .i64 k/\nv= .int .i64 (abz z k)/\abz z k<=2804/\(k=0\/abz z (k-1)<=700)/\Below w.heap.size w wr
def awy(z:Int)(vs:List Int)(w:World)(e:Ending)(w':World):Prop:=∃q:Int,e= .returned (.int .i64 q)/\(q<=700->abz z vs.length<=700)/\Below w.heap.size w w'
theorem aeK(m:Ip)(h1:1<=m.size)(h4:m.size<=4)(P:List LV)(hl:P.length<=1000000)(hs:T.sizes (aad (t3s P))<=100000)(aM:Nat)(ma:Option Addr)(mc:Nat)(a:Option Addr)(c:Nat)(w:World)(hn:aM<=w.heap.size)(hP:aaV aM w P a c):
 Calls Tryz.prog 16 #[ipV m ma mc,.slice a P.length c,.int .i64 700] w (awy m.size (acv (t3s P)) w):=by
 have D:=ae (((aai.below (ag _ w)).and (ac6 (hP.mono hn))).pushI (ag _ _) m ma mc);clear hP;go_enter Tryz.func16,Tryz.ntmps16
 go_wp2_with fail
 generalize w.alloc (ipO m ma mc)=w1 at D ⊢;generalize hb0:w.heap.size=b0 at D ⊢;have HB0:=ae hb0;clear hb0;refine(afE P hl w1.heap.size a c w1 (af _) D.out.now.2.1).mono ?_;rintro e w2 ⟨p2,c2,rfl,hA,hb⟩;have D2:=ae (D.out.mv hb);have CV:=ae (afu (aad (t3s P)) hs w2.heap.size p2 c2 w2 (af _) hA);clear hb hA D
 go_wp2_with fail
 refine CV.out.mono ?_;rintro e w3 ⟨p3,c3,rfl,hI,_,hb⟩;have D3:=ae (D2.out.mv hb);clear hb D2 CV;rw[show T.rvs [] (aad (t3s P))=acv (t3s P) from rfl] at hI ⊢;have hlv:(acv (t3s P)).length<=c3/\c3<=maxLen:=⟨hI.1,hI.2.1⟩;unfold maxLen at hlv;obtain⟨hv1,hv2⟩:=hlv;generalize hvs:acv (t3s P)=vs at hv1 ⊢;have HVS:=ae hvs;clear hvs;clear hI;go_wp2
 go_loopw [7,9] (fun nv iv wr=>WmI m.size vs w3 nv iv wr) (fun _ iv _=>vs.length-(intOf iv).toNat)
 case atStart=>exact⟨0,Nat.zero_le _,rfl,rfl,by simp[abz],.inl rfl,ag _ _⟩
 case round=>
  obtain⟨k,hk,rfl,rfl,hp,hq,hB⟩:=hrel;have DR:=ae (D3.out.mv hB);have HB:=ae hB;have HQ:=ae hq;have hpos:=adP h1 k;clear hB hq;obtain⟨⟨i0,i1⟩,_⟩:=DR.out.now;by_cases hlt:k<vs.length
  ·have hk0:(k:Int)<(vs.length:Int):=by omega
   by_cases h7:abz m.size k<=700
   ·have hst:abz m.size k*m.size=abz m.size (k+1):=rfl
    have hup:abz m.size (k+1)<=2804/\1<=abz m.size (k+1):=by
     refine⟨?_,adP h1 _⟩;rw[←hst];have:=Int.mul_le_mul_of_nonneg_left h4 (show(0:Int)<=abz m.size k by omega);omega
    have hw:IntKind.i64.wrap (abz m.size k*m.size)=abz m.size (k+1):=IntWalk.i64_in _ (by rw[hst];omega);have HUP:=ae hup.1;have H7:=ae h7;clear hst hup;go_wp2
    go_roundw
    case rel=>exact⟨k+1,by omega,by go_num,rfl,HUP.out,.inr H7.out,HB.out⟩
    case measure=>simp[intOf];omega
   ·have h7':decide (abz m.size k<=700)=false:=decide_eq_false h7;have HR:=ae (DR.out.now.2.2);obtain⟨z,hz⟩:∃z,abz m.size k=z:=⟨_,rfl⟩;rw[hz] at h7 h7' hp hpos ⊢;clear hz;have hmin:min z 701=701:=by omega
    have hmin2:¬z<=701\/z=701:=by omega
    go_wp2;go_ret;refine⟨_,rfl,fun h=> ?_,by rw[HB0.out];exact HR.out⟩;exfalso
    first
     |omega
     |(split at h<;>omega)
  ·obtain rfl:k=vs.length:=by omega
   have HR:=ae (DR.out.now.2.2);obtain⟨z,hz⟩:∃z,abz m.size vs.length=z:=⟨_,rfl⟩;have HZ:=ae hz;rw[hz] at hp hpos ⊢;clear hz;go_wp2;go_ret;refine⟨_,rfl,fun h=> ?_,by rw[HB0.out];exact HR.out⟩
   try rw[HVS.out]
   rw[HZ.out]
   first
    |omega
    |(split at h<;>omega)
end Go.Proofs.YtabfapijgfjflaaGreat
