import Derived.Test.YtabfapijgfjflaaGreatMQBv
import Derived.Test.YtabfapijgfjflaaGreatMQBz28
import Derived.Test.YtabfapijgfjflaaGreatMQBz29
import Derived.Test.YtabfapijgfjflaaGreatMQBz32
import Derived.BigQuiet
import Derived.Deep.QuietTactic
import Derived.Lib.QuietBelow
import Derived.Deep.RegionLaw
import Derived.Deep.RegionHeld3
import Derived.Deep.CutRange
import Derived.Test.YtabfapijgfjflaaGreatMAl
set_option linter.unusedVariables false
set_option linter.unusedSimpArgs false
set_option maxRecDepth 100000
set_option maxHeartbeats 8000000
namespace Go.Proofs.YtabfapijgfjflaaGreat
open Go.RowKit
theorem aqW{g:Sg}{C:List Lt3}{how:Int}{p:Gp}(hp:p∈eqG g C how++faG g C how):aaN g p.c=0/\nmL p.c=p.c/\nmE p.c=0/\tidy p.c=p.c:=by
 have hr:=afa hp
 have hk:∃D s,adj g D s=some p.c:=by
  rcases aG.1 hp with h|h
  ·obtain⟨_,i,x,_,_,_,_,hk,_⟩:=aju h;exact⟨_,_,hk⟩
  ·obtain⟨_,_,i,k,a,b,x,z,_,_,_,_,_,_,_,_,_,_,hk⟩:=ajv h;exact⟨_,_,hk⟩
 obtain⟨D,s,hk⟩:=hk;obtain⟨h1,h2,h3,_⟩:=ag9 hk;exact⟨hr,h2,by unfold nmE;rw[h1];rfl,h3⟩
theorem awu{g:Sg}{C:List Lt3}{how:Int}{p:Gp}(hp:p∈eqG g C how):p.c.length+1<=C.length:=by
 obtain⟨_,i,x,hx,_,_,_,hk,_⟩:=aju hp;have h:=(ag9 hk).2.2.2;have hi:=(ah.1 hx).1;rw[List.length_eraseIdx,if_pos hi] at h;omega
theorem awv{g:Sg}{C:List Lt3}{how:Int}{p:Gp}(hp:p∈faG g C how):p.c.length<=C.length:=by
 obtain⟨_,_,i,k,a,b,x,z,_,hx,_,_,_,_,_,_,_,_,hk⟩:=ajv hp;have h:=(ag9 hk).2.2.2;have hi:=(ah.1 hx).1;rw[aK,List.length_eraseIdx,if_pos hi] at h;simp at h;omega
theorem aww{g:Sg}{C:List Lt3}{how:Int}(hs:seE g C how=0)(h:seL g C how≠[]):faG g C how=[]:=by
 unfold faG;rw[if_pos hs,if_neg];intro e;obtain⟨h1,h2⟩:=adL hs;exact h (by rw[(apy h1 h2).2,e])
theorem auZ{g:Sg}{C:List Lt3}{how:Int}{b:Int}(hp:abb g C how=[b]){i:Nat}{x:Lt3}(h:(eqS g C how i x).1.toList.length≠0):(i:Int)=b:=by
 unfold eqS at h;split at h
 ·split at h
  ·split at h
   ·rename_i hmy;unfold myR at hmy;split at hmy
    ·rw[if_neg (by rw[hp];simp)] at hmy;have:=of_decide_eq_true hmy;rw[hp] at this;simpa using this
    ·cases hmy
   ·simp at h
  ·simp at h
 ·simp at h
theorem awx{g:Sg}{C:List Lt3}{how:Int}(hs:seE g C how=0)(h:seL g C how≠[]):(eqG g C how).length<=1:=by
 have hp:abb g C how≠[]:=by
  obtain⟨h1,h2⟩:=adL hs;rwa[(apy h1 h2).2] at h
 obtain⟨b,hb⟩:∃b,abb g C how=[b]:=by
  have hl:=arV g C how
  match hq:abb g C how,hp,hl with
  |[],hp,_=>exact absurd rfl hp
  |[b],_,_=>exact⟨b,rfl⟩
  |_::_::_,_,hl=>simp at hl
 have aux:∀k:Nat,(eqF g C how k).1.length<=if b<(k:Int) then 1 else 0:=by
  intro k
  induction k with
  |zero=>simp[eqF]
  |succ k ih=>
   have h1:=aqu g C how k (C.getD k z3);rw[eqF];simp only[aK];by_cases e:(eqS g C how k (C.getD k z3)).1.toList.length=0
   ·split at ih
    ·rw[if_pos (by omega)];omega
    ·split<;>omega
   ·have hk:=auZ hb e;rw[if_neg (by omega)] at ih;rw[if_pos (by omega)];omega
 unfold eqG;rw[if_pos hs];have:=aux C.length;split at this<;>omega
def MdE(G1 G2:List GV)(P:List LV)(p1 p2:Option Addr)(k:Nat)(x:GV)(M:Int)(wr:World):Prop:=
 (∃bg og,p1=some ⟨bg,og,none⟩/\bg<wr.heap.size/\AtG wr bg (og+k*5) x/\k<G1.length/\M=(P.length:Int)-1/\aaV wr.heap.size wr x.P x.pc x.cc)\/
 (∃bg og j,p2=some ⟨bg,og,none⟩/\bg<wr.heap.size/\AtG wr bg (og+j*5) x/\k=G1.length+j/\j<G2.length/\M=(P.length:Int)/\aaV wr.heap.size wr x.P x.pc x.cc)
def MdC(x:GV)(M:Int)(wr:World)(v16:Value)(wx:World):Prop:=
 wx.cell? ⟨wr.heap.size,0,none⟩=some (.slice x.pc x.P.length x.cc)/\wr.heap.size<wx.heap.size/\v16= .int .i64 M/\Below wr.heap.size wr wx
def MdI(G1 G2:List GV)(w7:World)(i:Value)(wr:World):Prop:=∃k:Nat,k<=G1.length+G2.length/\i= .int .i64 k/\Below w7.heap.size w7 wr
theorem ahH(HE:asg)(HF:ash)(HA:auU)(g:Sg)(P:List LV)(how:Int)(ga:Option Addr)(gc:Nat)(a:Option Addr)(c:Nat)(w:World)(hhow:(Lit.int .i64 how).wf=true)(hG:aaX w.heap.size w g ga gc)(hP:aaV w.heap.size w P a c)(hl:P.length<=2000000000000):
 Calls Tryz.prog 6 #[.slice ga g.length gc,.slice a P.length c,.int .i64 how] w fun e w'=>e= .returned (.bool true)/\Below w.heap.size w w':=by
 have D:=ae (((aai.below (ag _ w)).and (ac6 hP)).and (acS hG));have HAW:=ae HA;have HEQ:=ae HE;have HFA:=ae HF;have HHW:=ae hhow;clear hG hP HA HE HF hhow;go_enter Tryz.func6,Tryz.ntmps6
 go_wp2_with fail
 refine(air g P hl w.heap.size ga gc a c w (af _) D.out.now.1 D.out.now.2.1).mono ?_;rintro e w2 ⟨f0,rfl,hf,hb⟩;have D2:=ae (D.out.mv hb);clear hb D;cases f0
 case false=>
  have HQ:=ae D2.out.now.2.2;clear D2 hf;go_wp2;go_ret;exact⟨rfl,HQ.out⟩
 have HFW:=ae (hf rfl);clear hf
 go_wp2_with fail
 refine(HEQ.out g P how HFW.out w2.heap.size ga gc a c w2 (af _) HHW.out D2.out.now.1 D2.out.now.2.1).mono ?_;rintro e w4 ⟨G1,p1,c1,hg1,hpn1,rfl,hG1,hb⟩;have D4:=ae ((D2.out.mv hb).and (adN hG1));have HG1:=ae hg1;have HPN1:=ae hpn1;have hlc1:G1.length<=c1/\c1<=maxLen:=⟨hG1.1,hG1.2.1⟩;clear hb D2 hG1 hg1 hpn1
 go_wp2_with fail
 refine(HFA.out g P how HFW.out w4.heap.size ga gc a c w4 (af _) HHW.out D4.out.now.2.1 D4.out.now.2.2.1).mono ?_;rintro e w5 ⟨G2,p2,c2,hg2,hpn2,rfl,hG2,hb⟩;have D5:=ae ((D4.out.mv hb).and (adN hG2));have HG2:=ae hg2;have hlc2:G2.length<=c2/\c2<=maxLen:=⟨hG2.1,hG2.2.1⟩;clear hb D4 hG2 hg2 hpn2
 go_wp2_with fail
 refine(ada g P HFW.out.sz how w5.heap.size ga gc a c w5 (af _) D5.out.now.2.2.1 D5.out.now.2.2.2.1).mono ?_;rintro e w6 ⟨p6,c6,rfl,_,hb⟩;have D6:=ae (D5.out.mv hb);clear hb D5;by_cases hse:seE g (t3s P) how=0
 case neg=>
  obtain⟨k,hk⟩:∃k,seE g (t3s P) how=k:=⟨_,rfl⟩;rw[hk] at hse ⊢;have h2:(k != 0)=true:=by simpa using hse
  have h3:(k==k)=true:=by simp
  clear hse hk hlc1 hlc2
  go_wp2_with fail
  refine(HAW.out w6).mono ?_;rintro e w7 ⟨rfl,hb⟩;have HQ:=ae (D6.out.mv hb).now.2.2.2.2;clear hb D6;go_wp2;go_ret;exact⟨rfl,HQ.out⟩
 have HSE:=ae hse;have hn1:(0:Int)<=(eqN g (t3s P) how:Int):=by omega
 have hn2:(0:Int)<=(faN g (t3s P) how:Int):=by omega
 have hs1:seL g (t3s P) how≠[]->G1.length<=1/\G2.length=0:=fun h=>⟨by rw[acj HG1.out];exact awx hse h,by rw[acj HG2.out,aww hse h];rfl⟩
 have hle1:G1.length<=8:=by
  have h1:=aqw g (t3s P) how;have h2:=HFW.out.1;have h3:(t3s P).length=P.length:=by simp[t3s]
  rw[acj HG1.out];omega
 have hle2:G2.length<=256:=by
  rw[acj HG2.out];have h3:(t3s P).length=P.length:=by simp[t3s]
  have h4:=HFW.out.1;exact aqz g how (by omega)
 have hpl:=HFW.out.1;rw[hse];generalize eqN g (t3s P) how=n1 at hn1 ⊢;generalize faN g (t3s P) how=n2 at hn2 ⊢;obtain⟨L,hL⟩:∃L,(seL g (t3s P) how).length=L:=⟨_,rfl⟩;have hs2:0<L->G1.length<=1/\G2.length=0:=fun h=>hs1 (fun e=>by rw[e] at hL;simp at hL;omega);rw[hL];clear hse hs1 hL;have hn1':decide ((n1:Int)<0)=false:=decide_eq_false (by omega);have hn2':decide ((n2:Int)<0)=false:=decide_eq_false (by omega);unfold maxLen at hlc1 hlc2;obtain⟨hl1,hl1'⟩:=hlc1;obtain⟨hl2,hl2'⟩:=hlc2
 have hs3:¬(0<L)\/(0<L/\G1.length<=1/\G2.length=0):=by
  by_cases h:0<L
  ·exact .inr ⟨h,hs2 h⟩
  ·exact .inl h
 clear hs2;have HMEM1:=ae (show ∀x∈G1,x.gp∈eqG g (t3s P) how from fun x hx=>by rw[←HG1.out];exact List.mem_map.2 ⟨x,hx,rfl⟩);have HMEM2:=ae (show ∀x∈G2,x.gp∈faG g (t3s P) how from fun x hx=>by rw[←HG2.out];exact List.mem_map.2 ⟨x,hx,rfl⟩)
 have hdr1:L=0\/((0<L/\decide (0<L)=true/\(0:Int)<(L:Int)/\decide ((0:Int)<(L:Int))=true)/\(¬0<G2.length/\decide (0<G2.length)=false/\¬(0:Int)<(G2.length:Int)/\decide ((0:Int)<(G2.length:Int))=false)/\(¬1<G1.length/\decide (1<G1.length)=false/\¬(1:Int)<(G1.length:Int)/\decide ((1:Int)<(G1.length:Int))=false)):=by
  rcases hs3 with h|⟨h,h1,h2⟩
  ·exact .inl (by omega)
  ·exact .inr ⟨⟨by omega,decide_eq_true (by omega),by omega,decide_eq_true (by omega)⟩,⟨by omega,decide_eq_false (by omega),by omega,decide_eq_false (by omega)⟩,by omega,decide_eq_false (by omega),by omega,decide_eq_false (by omega)⟩
 clear hs3
 have HSZ:=ae (show ∀x:GV,x.gp∈eqG g (t3s P) how++faG g (t3s P) how->(∀y∈x.P,y.sz)/\x.P.length<=32/\T.sizes (aad (t3s x.P))<=100000 from fun x hx=>by
  have h:=ack (afa hx);exact⟨aqI h.2.2.2,by have h1:=h.1;simpa[Gp,GV.gp,t3s] using h1,h.2.1⟩)
 have HMA:=ae (show(∀x∈G1,x.gp∈eqG g (t3s P) how++faG g (t3s P) how/\x.P.length+1<=P.length)/\∀x∈G2,x.gp∈eqG g (t3s P) how++faG g (t3s P) how/\x.P.length<=P.length from by
  have e:∀Q:List LV,(t3s Q).length=Q.length:=fun Q=>by simp[t3s]
  refine⟨fun x hx=>⟨aG.2 (.inl (HMEM1.out x hx)),?_⟩,fun x hx=>⟨aG.2 (.inr (HMEM2.out x hx)),?_⟩⟩
  ·have h:=awu (HMEM1.out x hx);rw[e P] at h;have h2:(t3s x.P).length+1<=P.length:=h;rwa[e] at h2
  ·have h:=awv (HMEM2.out x hx);rw[e P] at h;have h2:(t3s x.P).length<=P.length:=h;rwa[e] at h2)
 clear HMEM1 HMEM2
 rcases hdr1 with rfl|⟨⟨d1,d2,d3,d4⟩,⟨d5,d6,d7,d8⟩,d9,d10,d11,d12⟩
 all_goals
  go_upto_region 10 with fail
  go_wp2
  go_loopw [15] (fun i wr=>MdI G1 G2 w6 i wr) (fun i _=>G1.length+G2.length-(intOf i).toNat)
  case atStart=>exact⟨0,Nat.zero_le _,rfl,ag _ _⟩
  case round=>
   obtain⟨k,hk,rfl,hB⟩:=hrel;have D:=ae (D6.out.mv hB);have HB:=ae hB;clear hB;by_cases hlt:k<G1.length+G2.length
   ·have hk0:(0:Int)<=(k:Int):=aw _;have hk1:(k:Int)<(G1.length:Int)+(G2.length:Int):=by omega
    obtain⟨x,M,hel,hmem,hxM⟩:∃(x:GV) (M:Int),MdE G1 G2 P p1 p2 k x M wr/\x.gp∈eqG g (t3s P) how++faG g (t3s P) how/\(x.P.length:Int)<=M:=by
     by_cases h1:k<G1.length
     ·obtain⟨bg,og,x,hpe,hbg,hx,hat,hxv⟩:=D.out.now.2.1.elem (i:=k) h1;have hm:=HMA.out.1 x (ak hx);exact⟨x,(P.length:Int)-1,.inl ⟨bg,og,hpe,hbg,hat,h1,rfl,hxv.cl⟩,hm.1,by omega⟩
     ·obtain⟨bg,og,x,hpe,hbg,hx,hat,hxv⟩:=D.out.now.1.elem (i:=k-G1.length) (by omega);have hm:=HMA.out.2 x (ak hx);exact⟨x,(P.length:Int),.inr ⟨bg,og,k-G1.length,hpe,hbg,hat,by omega,by omega,rfl,hxv.cl⟩,hm.1,by omega⟩
    have HEL:=ae hel;have HMM:=ae hmem;clear hel hmem
    go_upto_if 104 with fail
    go_cut [16] from 89 to 155 (fun v16 wx=>MdC x M wr v16 wx)
    case first=>
     rcases HEL.out with⟨bg,og,rfl,hbg,⟨e0,e1,e2,e3,e4⟩,h1,rfl,_⟩|⟨bg,og,j,rfl,hbg,⟨e0,e1,e2,e3,e4⟩,rfl,h1,rfl,_⟩
     ·have hk2:(k:Int)<(G1.length:Int):=by omega
      go_wp2
      go_meet
      exact⟨by simp[go_sem],by simp[go_sem],rfl,(ag _ _).alloc (af _) _⟩
     ·have hk2:¬((G1.length+j:Nat):Int)<(G1.length:Int):=by omega
      first
       |(exfalso;omega)
       |(go_wp2
         go_meet
         exact⟨by simp[go_sem],by simp[go_sem],rfl,(ag _ _).alloc (af _) _⟩)
    case rest=>
     obtain⟨hc0,hb17,rfl,hB17⟩:=hcut;generalize hb17e:wr.heap.size=b17 at hc0 hb17 ⊢;generalize wc=w8 at*
     have hxc:aaV wr.heap.size wr x.P x.pc x.cc:=by
      rcases HEL.out with⟨_,_,_,_,_,_,_,h⟩|⟨_,_,_,_,_,_,_,_,_,h⟩<;>exact h
     have hfine:=aqW HMM.out;have hsz:=HSZ.out x HMM.out;have HCL:=ae (show ∀W,Below w8.heap.size w8 W->aaV W.heap.size W x.P x.pc x.cc from fun W hW=>(hxc.below (hB17.trans (hW.mono hB17.size))).mono (aE hB17.size hW.size));have D8:=ae (D.out.mv hB17);have HB8:=ae (HB.out.trans (hB17.mono HB.out.size));have CN:=ae (aqi x.P (by omega) hsz.2.2 w8.heap.size x.pc x.cc w8 (af _) (HCL.out w8 (ag _ _)));rw[show nmL (t3s x.P)=t3s x.P from hfine.2.1,show nmE (t3s x.P)=0 from hfine.2.2.1] at CN;clear hxc hB17 HEL D HB
     go_wp2_with fail
     refine CN.out.mono ?_;rintro e w9 ⟨N,pN,cN,hN,rfl,hNc,hb⟩;have D9:=ae (D8.out.mv hb);have HB9:=ae (HB8.out.trans (hb.mono HB8.out.size));have HN:=ae hN;have HNC:=ae hNc;have f17:w9.cell? ⟨b17,0,none⟩=some (.slice x.pc x.P.length x.cc):=(hb.cell (p:=⟨b17,0,none⟩) hb17).trans hc0;have hb17':b17<w9.heap.size:=aF hb17 hb.size;have HCL9:=ae (show ∀W,Below w9.heap.size w9 W->aaV W.heap.size W x.P x.pc x.cc from fun W hW=>HCL.out W (hb.trans (hW.mono hb.size)))
     have CC:=ae (fun(W:World) (hW:Below w9.heap.size w9 W)=>show Calls Tryz.prog 21 #[.slice ga g.length gc,.slice x.pc x.P.length x.cc] W (fun e w'=>e= .returned (.int .i64 0)/\Below w9.heap.size w9 w') from by
      have h:=acN g x.P hsz.1 W.heap.size ga gc x.pc x.cc W (af _) (((D9.out.mv hW).now.2.2.1)) (HCL9.out W hW);rw[show aaN g (t3s x.P)=0 from hfine.1] at h;refine Calls.mono h ?_;rintro e w' ⟨he,hb'⟩;exact⟨he,hW.trans (hb'.mono hW.size)⟩)
     have CX1:=ae (fun(W:World) (hW:Below w9.heap.size w9 W)=>show Calls Tryz.prog 22 #[.slice pN N.length cN,.slice x.pc x.P.length x.cc] W (fun e w'=>e= .returned (.bool true)/\Below w9.heap.size w9 w') from by
      have h:=aef N x.P HN.out (fun y hy=>by
       have hm:y.t3∈t3s x.P:=by rw[←HN.out];exact List.mem_map.2 ⟨y,hy,rfl⟩
       obtain⟨u,hu,e⟩:=List.mem_map.1 hm;have h1:=hsz.1 u hu;have e1:u.l=y.l:=congrArg Lt3.l e;have e2:u.r=y.r:=congrArg Lt3.r e;exact⟨by rw[←e1];exact h1.1,by rw[←e2];exact h1.2⟩) W.heap.size pN cN x.pc x.cc W (af _) ((HNC.out.below hW).mono hW.size) (HCL9.out W hW)
      refine Calls.mono h ?_;rintro e w' ⟨he,hb'⟩;exact⟨he,hW.trans (hb'.mono hW.size)⟩)
     have CTD:=ae (fun(W:World) (hW:Below w9.heap.size w9 W)=>show Calls Tryz.prog 23 #[.slice x.pc x.P.length x.cc] W (fun e w'=>∃(O:List LV) (p:Option Addr) (c':Nat),e= .returned (.slice p O.length c')/\(t3s O=t3s x.P/\aaV w'.heap.size w' O p c')/\Below w9.heap.size w9 w') from by
      have h:=am8 x.P (by omega) hsz.1 W.heap.size x.pc x.cc W (af _) (HCL9.out W hW);refine Calls.mono h ?_;rintro e w' ⟨O,p,c',hO,he,hI,hb'⟩;exact⟨O,p,c',he,⟨hO.trans hfine.2.2.2,hI⟩,hW.trans (hb'.mono hW.size)⟩)
     have CX2:=ae (fun(W:World) (hW:Below w9.heap.size w9 W) (O:List LV) (p:Option Addr) (c':Nat) (hO:t3s O=t3s x.P/\aaV W.heap.size W O p c')=>show Calls Tryz.prog 22 #[.slice p O.length c',.slice x.pc x.P.length x.cc] W (fun e w'=>e= .returned (.bool true)/\Below w9.heap.size w9 w') from by
      have h:=aef O x.P hO.1 (fun y hy=>by
       have hm:y.t3∈t3s x.P:=by rw[←hO.1];exact List.mem_map.2 ⟨y,hy,rfl⟩
       obtain⟨u,hu,e⟩:=List.mem_map.1 hm;have h1:=hsz.1 u hu;have e1:u.l=y.l:=congrArg Lt3.l e;have e2:u.r=y.r:=congrArg Lt3.r e;exact⟨by rw[←e1];exact h1.1,by rw[←e2];exact h1.2⟩) W.heap.size p c' x.pc x.cc W (af _) hO.2 (HCL9.out W hW)
      refine Calls.mono h ?_;rintro e w' ⟨he,hb'⟩;exact⟨he,hW.trans (hb'.mono hW.size)⟩)
     have KS:=ae (show ∀W,Below w9.heap.size w9 W->W.cell? ⟨b17,0,none⟩=some (.slice x.pc x.P.length x.cc)/\Below w9.heap.size w9 W from fun W hW=>⟨(hW.cell (p:=⟨b17,0,none⟩) hb17').trans f17,hW⟩);have hgt:decide (M<(x.P.length:Int))=false:=decide_eq_false (by omega);have hgt2:¬(M<(x.P.length:Int)):=by omega
     clear hb hN hNc hc0 hb17 CN D8 HB8 hfine hsz HCL HCL9
     go_upto_region 20 with fail
     go_cut [155] from 89 to 155 (fun v wx=>v= .bool false/\Below w9.heap.size w9 wx)
     case first=>
      refine wp_region_noPanic ?_
      go_region_held3 (fun w'=>w'.cell? ⟨b17,0,none⟩=some (.slice x.pc x.P.length x.cc)/\Below w9.heap.size w9 w')
       (first
        |with_reducible exact KS.out _ (ag _ _)
        |with_reducible exact KS.out _ (ag _ _).drew
        |with_reducible exact KS.out _ hB1
        |with_reducible exact KS.out _ hB2
        |with_reducible exact KS.out _ hB3
        |with_reducible exact KS.out _ hB4)
       (first
        |(go_at_call 21;with_reducible refine(CC.out _ (‹_/\Below w9.heap.size w9 _›.2)).mono ?_;rintro e u1 ⟨rfl,hB1⟩)
        |(go_at_call 23;with_reducible refine(CTD.out _ (‹_/\Below w9.heap.size w9 _›.2)).mono ?_;rintro e u3 ⟨O,pO,cO,rfl,hOO,hB3⟩)
        |(go_at_call 22;with_reducible refine(CX2.out _ (‹_/\Below w9.heap.size w9 _›.2) O pO cO hOO).mono ?_;rintro e u4 ⟨rfl,hB4⟩)
        |(go_at_call 22;with_reducible refine(CX1.out _ (‹_/\Below w9.heap.size w9 _›.2)).mono ?_;rintro e u2 ⟨rfl,hB2⟩))
      all_goals
       refine NoPanic.normal ?_;go_wp2
       go_meet
       exact⟨rfl,hB4⟩
     case rest=>
      obtain⟨rfl,hB⟩:=hcut;have HBF:=ae (HB9.out.trans (hB.mono HB9.out.size));clear hB;go_wp2
      go_roundw
      case rel=>exact⟨k+1,by omega,by go_num,HBF.out⟩
      case measure=>simp[intOf];omega
   ·obtain rfl:k=G1.length+G2.length:=by omega
    have hk1:¬((G1.length+G2.length:Nat):Int)<(G1.length:Int)+(G2.length:Int):=by omega
    go_wp2_with fail
    refine(HAW.out wr).mono ?_;rintro e wz ⟨rfl,hb⟩;have HQ:=ae (D.out.mv hb).now.2.2.2.2;clear hb D;go_wp2;go_ret;exact⟨rfl,HQ.out⟩
end Go.Proofs.YtabfapijgfjflaaGreat
