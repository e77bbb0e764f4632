import Derived.Test.YtabfapijgfjflaaGreatMQBv
import Derived.Test.YtabfapijgfjflaaGreatMQBz28
import Derived.Test.YtabfapijgfjflaaGreatMQBz29
import Derived.Test.YtabfapijgfjflaaGreatMQBz32
import Derived.Test.YtabfapijgfjflaaGreatMWh3
import Derived.Test.YtabfapijgfjflaaGreatMAl
set_option linter.unusedVariables false
set_option linter.unusedSimpArgs false
set_option maxRecDepth 100000
set_option maxHeartbeats 8000000
namespace Go.Proofs.YtabfapijgfjflaaGreat
open Go.RowKit
def HoI(G:List GV)(w11:World)(i:Value)(wr:World):Prop:=∃k:Nat,k<=G.length/\i= .int .i64 k/\Below w11.heap.size w11 wr
theorem ahg(HE:asg)(HF:ash)(HA:auU)(g:Sg)(m:Ip)(P:List LV)(how:Int)(ga:Option Addr)(gc:Nat)(ma:Option Addr)(mc:Nat)(a:Option Addr)(c:Nat)(w:World)(hmw:(Lit.int .i64 m.size).wf=true)(hhow:(Lit.int .i64 how).wf=true)(hG:aaX w.heap.size w g ga gc)(hM:agB w.heap.size w m.rows ma mc)(hP:aaV w.heap.size w P a c)(hl:P.length<=2000000000000):
 Calls Tryz.prog 5 #[.slice ga g.length gc,ipV m ma mc,.slice a P.length c,.int .i64 how] w fun e w'=>e= .returned (.bool true)/\Below w.heap.size w w':=by
 have D:=ae (((((aai.below (ag _ w)).and (ac6 hP)).and (adb hM)).and (acS hG)).pushI (ag _ _) m ma mc);have HAW:=ae HA;have HEQ:=ae HE;have HFA:=ae HF;have HHW:=ae hhow;clear hG hM hP HA HE HF hhow;go_enter Tryz.func5,Tryz.ntmps5
 go_wp2_with fail
 generalize w.alloc (ipO m ma mc)=w1 at D ⊢;generalize hb0:w.heap.size=b0 at D ⊢;have HB0:=ae hb0;clear hb0;refine(air g P hl w1.heap.size ga gc a c w1 (af _) D.out.now.2.1 D.out.now.2.2.2.1).mono ?_;rintro e w2 ⟨f0,rfl,hf,hb⟩;have D2:=ae (D.out.mv hb);clear hb D;cases f0
 case false=>
  have HQ:=ae D2.out.now.2.2.2.2;clear D2 hf;go_wp2;go_ret;exact⟨rfl,by rw[HB0.out];exact HQ.out⟩
 have HFW:=ae (hf rfl);clear hf;obtain⟨i0,i1⟩:=D2.out.now.1
 go_wp2_with fail
 clear i0 i1;refine(akY m w2.heap.size ma mc w2 (af _) D2.out.now.2.2.1).mono ?_;rintro e w3 ⟨f0,rfl,hb⟩;have D3:=ae (D2.out.mv hb);clear hb D2;cases f0
 case false=>
  have HQ:=ae D3.out.now.2.2.2.2;clear D3;go_wp2;go_ret;exact⟨rfl,by rw[HB0.out];exact HQ.out⟩
 go_wp2_with fail
 refine(HEQ.out g P how HFW.out w3.heap.size ga gc a c w3 (af _) HHW.out D3.out.now.2.1 D3.out.now.2.2.2.1).mono ?_;rintro e w4 ⟨G1,p1,c1,hg1,hpn1,rfl,hG1,hb⟩;have D4:=ae ((D3.out.mv hb).and (adN hG1));have HG1:=ae hg1;have HPN1:=ae hpn1;clear hb D3 hG1 hg1 hpn1
 go_wp2_with fail
 refine(HFA.out g P how HFW.out w4.heap.size ga gc a c w4 (af _) HHW.out D4.out.now.2.2.1 D4.out.now.2.2.2.2.1).mono ?_;rintro e w5 ⟨G2,p2,c2,hg2,hpn2,rfl,hG2,hb⟩;have D5:=ae ((D4.out.mv hb).and (adN hG2));have HG2:=ae hg2;have HPN2:=ae hpn2;clear hb D4 hG2 hg2 hpn2;by_cases hse:seE g (t3s P) how=0
 case neg=>
  have hl1:G1.length=0:=by rw[acj HG1.out];unfold eqG;rw[if_neg hse];rfl
  have hl2:G2.length=0:=by rw[acj HG2.out];unfold faG;rw[if_neg hse];rfl
  obtain⟨k,hk⟩:∃k,seE g (t3s P) how=k:=⟨_,rfl⟩;rw[hk] at hse ⊢;have h2:(k != 0)=true:=by simpa using hse
  rw[hl1,hl2];clear hse hk hl1 hl2
  go_wp2_with fail
  refine(HAW.out w5).mono ?_;rintro e w6 ⟨rfl,hb⟩;have HQ:=ae (D5.out.mv hb).now.2.2.2.2.2.2;clear hb D5;go_wp2;go_ret;exact⟨rfl,by rw[HB0.out];exact HQ.out⟩
 have HSE:=ae hse;rw[hse];clear hse;obtain⟨i0,i1⟩:=D5.out.now.2.2.1
 go_wp2_with fail
 clear i0 i1;refine(ahE g m w5.heap.size ga gc ma mc w5 (af _) D5.out.now.2.2.2.1 D5.out.now.2.2.2.2.1).mono ?_;rintro e w6 ⟨rfl,hb⟩;have D6:=ae (D5.out.mv hb);clear hb D5;cases hwr:abg g m
 case false=>
  clear hwr
  go_wp2_with fail
  refine(HAW.out w6).mono ?_;rintro e wz ⟨rfl,hb⟩;have HQ:=ae (D6.out.mv hb).now.2.2.2.2.2.2;clear hb D6;go_wp2;go_ret;exact⟨rfl,by rw[HB0.out];exact HQ.out⟩
 have HWR:=ae hwr;clear hwr;obtain⟨i0,i1⟩:=D6.out.now.2.2.1
 go_wp2_with fail
 clear i0 i1;refine(aeK m (aa0 HWR.out).2.1 (aa0 HWR.out).2.2.1 P (by have:=HFW.out.1;omega) (by have:=HFW.out.2;omega) w6.heap.size ma mc a c w6 (af _) D6.out.now.2.2.2.2.2.1).mono ?_;rintro e w7 ⟨q,rfl,hq,hb⟩;have D7:=ae (D6.out.mv hb);clear hb D6;by_cases h7:q<=700
 case neg=>
  have h7':700<q:=by omega
  clear hq h7
  go_wp2_with fail
  refine(HAW.out w7).mono ?_;rintro e wz ⟨rfl,hb⟩;have HQ:=ae (D7.out.mv hb).now.2.2.2.2.2.2;clear hb D7;go_wp2;go_ret;exact⟨rfl,by rw[HB0.out];exact HQ.out⟩
 have HPW:=ae (hq h7);have h7':decide (700<q)=false:=decide_eq_false (by omega);clear hq
 go_wp2_with fail
 clear h7 h7';refine(ag3 g P HFW.out.sz w7.heap.size ga gc a c w7 (af _) D7.out.now.2.2.2.1 D7.out.now.2.2.2.2.2.1).mono ?_;rintro e w8 ⟨rfl,hb⟩;have D8:=ae (D7.out.mv hb);clear hb D7;by_cases hc:aaN g (t3s P)=0
 case neg=>
  obtain⟨k,hk⟩:∃k,aaN g (t3s P)=k:=⟨_,rfl⟩;rw[hk] at hc ⊢;have h2:(k != 0)=true:=by simpa using hc
  clear hc hk
  go_wp2_with fail
  refine(HAW.out w8).mono ?_;rintro e wz ⟨rfl,hb⟩;have HQ:=ae (D8.out.mv hb).now.2.2.2.2.2.2;clear hb D8;go_wp2;go_ret;exact⟨rfl,by rw[HB0.out];exact HQ.out⟩
 have HC:=ae hc;rw[hc];clear hc;obtain⟨i0,i1⟩:=D8.out.now.2.2.1
 go_wp2_with fail
 clear i0 i1;refine(adZ g m HWR.out P (by have:=HFW.out.1;omega) (by have:=HFW.out.2;omega) (fun x hx=>(ack HC.out).2.2.1 x.t3 (List.mem_map.2 ⟨x,hx,rfl⟩)) HPW.out w8.heap.size ma mc a c w8 (af _) D8.out.now.2.2.2.2.1 D8.out.now.2.2.2.2.2.1).mono ?_;rintro e w9 ⟨b9,rfl,hb9,hb⟩;have D9:=ae (D8.out.mv hb);clear hb D8;cases b9
 case false=>
  clear hb9
  go_wp2_with fail
  refine(HAW.out w9).mono ?_;rintro e wz ⟨rfl,hb⟩;have HQ:=ae (D9.out.mv hb).now.2.2.2.2.2.2;clear hb D9;go_wp2;go_ret;exact⟨rfl,by rw[HB0.out];exact HQ.out⟩
 have HH:=ae (hb9.1 rfl);clear hb9
 have hle1:G1.length<=8:=by
  have h1:=aqw g (t3s P) how;have h2:=HFW.out.1;have h3:(t3s P).length=P.length:=by simp[t3s]
  rw[acj HG1.out];omega
 have hle2:G2.length<=256:=by
  rw[acj HG2.out];have h3:(t3s P).length=P.length:=by simp[t3s]
  have h4:=HFW.out.1;exact aqz g how (by omega)
 have hls1:∀x∈G1,ans w9.heap.size w9 x:=fun x hx=>att D9.out.now.2.1 hx;have hls2:∀x∈G2,ans w9.heap.size w9 x:=fun x hx=>att D9.out.now.1 hx;have HLS:=ae (And.intro hls1 hls2);clear hls1 hls2
 go_wp2_with (at_builtin;refine aaG ?_)
 refine ae ?_;refine adh rfl _ _ rfl w9.heap.size _ [] rfl (OG.nil _ _) (af _) G1 p1 c1 rfl (avQ.of_gs D9.out.now.2.1 HPN1.out) (by simp;omega) ?_;intro v10 w10 hown10 hgr10 _;obtain⟨hO10,hb10⟩:=(OG.nil w9.heap.size w9).append (af _) hown10 hgr10 HLS.out.1;have HO10:=ae hO10;have HB10:=ae hb10;clear hown10 hgr10 hO10 hb10
 go_wp2_with (at_builtin;refine aaG ?_)
 refine ae ?_;refine adh rfl _ _ rfl w9.heap.size _ ([]++G1) rfl HO10.out HB10.out.size G2 p2 c2 rfl (avQ.of_gs (D9.out.now.1.below HB10.out) HPN2.out) (by simp;omega) ?_;intro v11 w11 hown11 hgr11 _;obtain⟨hO11,hb11⟩:=HO10.out.append HB10.out.size hown11 hgr11 (fun x hx=>(HLS.out.2 x hx).below HB10.out);obtain⟨a11,c11,rfl,hI11⟩:=hO11.args (aE HB10.out.size hb11.size);have D11:=ae ((D9.out.mv (HB10.out.trans hb11)).and (adN hI11));obtain⟨G,hGe⟩:∃G,([]++G1)++G2=G:=⟨_,rfl⟩;have hgl:G.length<=264:=by rw[←hGe];simp;omega
 have HMEM:=ae (show ∀x∈G,x.gp∈eqG g (t3s P) how++faG g (t3s P) how from fun x hx=>by
  rw[←HG1.out,←HG2.out,←hGe] at*;rw[List.nil_append,aG] at hx;rw[aG];exact hx.imp (fun h=>List.mem_map.2 ⟨x,h,rfl⟩) (fun h=>List.mem_map.2 ⟨x,h,rfl⟩))
 rw[hGe] at D11 ⊢;clear hown11 hgr11 hO11 hb11 hI11 HO10 HB10 D9 HLS hle1 hle2 hGe;go_wp2
 go_loopw [16] (fun i wr=>HoI G w11 i wr) (fun i _=>G.length-(intOf i).toNat)
 case atStart=>exact⟨0,Nat.zero_le _,rfl,ag _ _⟩
 case round=>
  obtain⟨k,hk,rfl,hB⟩:=hrel;have D:=ae (D11.out.mv hB);have HB:=ae hB;clear hB;by_cases hlt:k<G.length
  ·obtain⟨bg,og,x,rfl,hbg,hx,⟨e0,_⟩,hxv⟩:=D.out.now.1.elem (i:=k) hlt;have hmem:=HMEM.out x (ak hx);have hr:=afa hmem;have hho:=made_holds HWR.out HC.out HH.out hmem;have hf:=ack hr;have HX:=ae (And.intro hho hf);have CC:=ae (ag3 g x.P (aqI hf.2.2.2) wr.heap.size ga gc x.pc x.cc wr (af _) D.out.now.2.2.2.2.1 hxv.cl);have LX:=ae (ac6 hxv.cl);rw[show aaN g (t3s x.P)=0 from hr] at CC;have hk0:(0:Int)<=(k:Int):=by omega
   have hk1:(k:Int)<(G.length:Int):=by omega
   clear hmem hr hho hf hxv hx
   go_wp2_with fail
   refine CC.out.mono ?_;rintro e w12 ⟨rfl,hb⟩;have DL:=ae ((D.out.and LX.out).mv hb);have HB12:=ae (HB.out.trans (hb.mono HB.out.size));clear hb CC LX e0 hbg;obtain⟨i0,i1⟩:=DL.out.now.2.2.2.2.1
   go_wp2_with fail
   clear i0 i1;refine(aeK m (aa0 HWR.out).2.1 (aa0 HWR.out).2.2.1 x.P (awp HX.out.2.1) HX.out.2.2.1 w12.heap.size ma mc x.pc x.cc w12 (af _) DL.out.now.1).mono ?_;rintro e w13 ⟨q,rfl,hq,hb⟩;have D13:=ae (DL.out.mv hb);have HB13:=ae (HB12.out.trans (hb.mono HB12.out.size));clear hb DL HB12;by_cases h7:q<=700
   ·have HPQ:=ae (hq h7);clear hq;obtain⟨i0,i1⟩:=D13.out.now.2.2.2.2.1
    go_wp2_with fail
    clear i0 i1;refine(adZ g m HWR.out x.P (awp HX.out.2.1) HX.out.2.2.1 (fun y hy=>HX.out.2.2.2.1 y.t3 (List.mem_map.2 ⟨y,hy,rfl⟩)) HPQ.out w13.heap.size ma mc x.pc x.cc w13 (af _) D13.out.now.2.2.2.2.2.2.1 D13.out.now.1).mono ?_;rintro e w14 ⟨b14,rfl,hb14,hb⟩;obtain rfl:b14=true:=hb14.2 HX.out.1;have HB14:=ae (HB13.out.trans (hb.mono HB13.out.size));clear hb hb14 D13 HB13;go_wp2
    go_roundw
    case rel=>exact⟨k+1,by omega,by go_num,HB14.out⟩
    case measure=>simp[intOf];omega
   ·have h7':decide (q<=700)=false:=decide_eq_false h7;clear hq h7;go_wp2
    go_roundw
    case rel=>exact⟨k+1,by omega,by go_num,HB13.out⟩
    case measure=>simp[intOf];omega
  ·obtain rfl:k=G.length:=by omega
   clear HMEM
   go_wp2_with fail
   refine(HAW.out wr).mono ?_;rintro e wz ⟨rfl,hb⟩;have HQ:=ae (D.out.mv hb).now.2.2.2.2.2.2.2;clear hb D;go_wp2;go_ret;exact⟨rfl,by rw[HB0.out];exact HQ.out⟩
end Go.Proofs.YtabfapijgfjflaaGreat
