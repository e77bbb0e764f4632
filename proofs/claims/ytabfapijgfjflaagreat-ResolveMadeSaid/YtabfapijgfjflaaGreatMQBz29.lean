import Derived.Test.YtabfapijgfjflaaGreatMQBv
import Derived.Test.YtabfapijgfjflaaGreatMQBz28
import Derived.Deep.RegionLaw
import Derived.Deep.CutRange
import Derived.Test.YtabfapijgfjflaaGreatMQBu
import Derived.BigQuiet
import Derived.Deep.QuietTactic
import Derived.Lib.QuietBelow
import Derived.Deep.RegionHeld3
import Derived.Deep.RegionWith
import Derived.Test.YtabfapijgfjflaaGreatMAl
set_option linter.unusedVariables false
set_option linter.unusedSimpArgs false
set_option maxRecDepth 100000
set_option maxHeartbeats 8000000
namespace Go.Proofs.YtabfapijgfjflaaGreat
open Go.RowKit
theorem awh{D:List LV}{m:Nat}(hm:m<=1000000000000)(h:∀x∈t3s D,x.l.size<=m/\x.r.size<=m):∀x∈D,x.sz:=fun x hx=>by
 obtain⟨h1,h2⟩:=h x.t3 (List.mem_map.2 ⟨x,hx,rfl⟩);have h1':x.l.size<=m:=h1;have h2':x.r.size<=m:=h2;exact⟨by omega,by omega⟩
theorem afb{i:Nat}(h:i<=1000000):(Lit.int .i64 (i:Int)).wf=true:=by
 have h1:IntKind.i64.min= -9223372036854775808:=by decide
 have h2:IntKind.i64.max=9223372036854775807:=by decide
 simp only[Lit.wf,Bool.and_eq_true,decide_eq_true_iff];omega
theorem afA(g:Sg)(b:Nat)(gv cv hv v:Value)(P:List GV)(m:Nat)(hPl:P.length<=10000)(D:List LV)(i k:Int)(s:Sb)(hss:∀x∈s,x.2.size<=1000000000000)(hds:∀x∈D,x.sz)(ha:acE s (t3s D)=0)(hD:aaN g (acL s (t3s D))=0)(hiw:(Lit.int .i64 i).wf=true)(hkw:(Lit.int .i64 k).wf=true)
 (w:World) (h:PrS b gv cv hv v P m w) (a:Option Addr) (c:Nat) (sa:Option Addr) (sc:Nat) (hDc:aaV w.heap.size w D a c) (hS:abH (fun q=>¬PF b v q/\isC w q) w s sa sc):
 Calls Tryz.prog 60 #[.pointer (some ⟨b,0,none⟩),.slice a D.length c,.agg #[.int .i64 i,.int .i64 k],.slice sa s.length sc] w (ag2 b gv cv hv v (gps P++[⟨nmL (tidy (acL s (t3s D))),i,k,[],s⟩]) m w):=by
 obtain⟨w1,hw1⟩:∃w1,w.alloc (.cells #[.int .i64 i,.int .i64 k] 40)=w1:=⟨_,rfl⟩;have hb1:Below w.heap.size w w1:=by rw[←hw1];exact(ag _ _).alloc (af _) _
 have hz1:w1.heap.size=w.heap.size+1:=by rw[←hw1];simp
 have hbox:w1.heap[w.heap.size]? =some (.cells #[.int .i64 i,.int .i64 k] 40 (0,0)):=by rw[←hw1];exact heap_alloc_new w _
 have HB1:=ae hb1;have HZ1:=ae hz1;have HBX:=ae hbox;have H:=ae h;have HDC:=ae hDc;have HS:=ae hS;have CA:=ae (ae8 s hss D hds w.heap.size sa sc a c w1 (by omega) ((hS.bs fun q hq=>hq.2.lt).below hb1) (hDc.below hb1));clear h hb1 hz1 hbox hDc hS;go_enter Tryz.func60,Tryz.ntmps60
 go_wp2_with fail
 refine CA.out.mono ?_;rintro e w2 ⟨Q,p2,c2,hQ,rfl,hQc,hb2⟩;have HB2:=ae (HB1.out.trans (hb2.mono HB1.out.size));have HB2':=ae hb2;have hQs:=awh (by omega) (fun x hx=>(ack (g:=g) (c:=t3s Q) (by rw[hQ];exact hD)).2.2.2 x hx);have hQl:=(ack (g:=g) (c:=t3s Q) (by rw[hQ];exact hD)).1
 have CT:=ae (am8 Q (by have:(t3s Q).length=Q.length:=by simp[t3s]
                        omega) hQs w2.heap.size p2 c2 w2 (af _) hQc)
 have HQ:=ae hQ;clear hb2 hQc hQs hQl hQ CA
 go_wp2_with fail
 refine CT.out.mono ?_;rintro e w3 ⟨O,p3,c3,hO,rfl,hOc,hb3⟩;have HB3:=ae (HB2.out.trans (hb3.mono HB2.out.size));have HB3':=ae (HB2'.out.trans (hb3.mono HB2'.out.size));have hOr:aaN g (t3s O)=0:=by rw[hO,HQ.out];exact aiA hD
 have CN:=ae (aiv O (by have:(t3s O).length=O.length:=by simp[t3s]
                        have:=(ack hOr).1;omega) (ack hOr).2.1 w3.heap.size p3 c3 w3 (af _) hOc)
 have HO:=ae hO;clear hb3 hOc hO hOr CT
 go_wp2_with fail
 refine CN.out.mono ?_;rintro e w4 ⟨N,p4,c4,hN,rfl,hNc,hb4⟩;have hB4:Below w.heap.size w w4:=HB3.out.trans (hb4.mono HB3.out.size);have hB4':Below w1.heap.size w1 w4:=HB3'.out.trans (hb4.mono HB3'.out.size);have h4:=H.out.later hB4;have hw3:=HB3.out.size;have hw4:=hB4.size;have hz1:=HZ1.out;have hw14:=hB4'.size
 have HXV:Hid (alf (fun q=>¬PF b v q/\isC w4 q) w4 ⟨N,i,k,[],s,p4,c4,none,0,sa,sc⟩):=ae ⟨hiw,hkw,hNc.isC.keep (fun _ _=>rfl) (fun q hq=>⟨fun e=>by
  have hq1:=hq.1.1
  rcases e with e|e
  ·have:=H.out.lt;omega
  ·have:=(H.out.ob e).2.lt;omega,hq.2⟩),⟨rfl,rfl,rfl⟩,HS.out.keep (fun q hq=>hB4.block q hq.2.lt) (fun q hq=>⟨hq.1,hq.2.keep (hB4.block q hq.2.lt)⟩)⟩
 have hbx4:w4.heap[w.heap.size]? =some (.cells #[.int .i64 i,.int .i64 k] 40 (0,0)):=(hB4'.block _ (by omega)).trans HBX.out;have d0:w4.cell? ⟨w.heap.size,0,none⟩=some (.int .i64 i):=by simp[World.cell?,hbx4]
 have d1:w4.cell? ⟨w.heap.size,1,none⟩=some (.int .i64 k):=by simp[World.cell?,hbx4]
 obtain⟨c0,_,_,_,_,f0,_⟩:=h4.cells;have hbl:=h4.lt;have hxl:w.heap.size<w4.heap.size:=by omega
 obtain⟨i0,hi,hz0,hzz,hz2⟩:=info_parts apZ;have hrow:=h4.own
 have hob:∀q,v.ownBlock=some q->b<q/\q<w.heap.size:=fun q hq=>by
  have h1:=(h4.ob hq).1;have h2:=(H.out.ob hq).2.lt;exact⟨h1,h2⟩
 have H4:=ae h4;have HB4:=ae hB4;have HN:=ae hN;clear hb4 hNc hN h4 hB4 hB4' hbx4 CN hw3 hz1 hw14;go_wp2;have hkm:P.length+1<=maxLen:=by unfold maxLen;omega
 have gd:∀ob,(w4.drew.alloc ob).cell? ⟨b,0,none⟩=some v:=fun ob=>(aq (a:=⟨b,0,none⟩) (az w4.drew ob _ hbl)).trans c0;have gfd:∀ob,(w4.drew.alloc ob).frozen? ⟨b,0,none⟩=false:=fun ob=>(aaQ (a:=⟨b,0,none⟩) (az w4.drew ob _ hbl)).trans f0;have gx0:∀ob,(w4.drew.alloc ob).cell? ⟨w.heap.size,0,none⟩=some (.int .i64 i):=fun ob=>(aq (a:=⟨w.heap.size,0,none⟩) (az w4.drew ob _ hxl)).trans d0;have gx1:∀ob,(w4.drew.alloc ob).cell? ⟨w.heap.size,1,none⟩=some (.int .i64 k):=fun ob=>(aq (a:=⟨w.heap.size,1,none⟩) (az w4.drew ob _ hxl)).trans d1;have hsg:v.ownBlock≠some b:=fun e=>by have:=(hob b e).1;omega
 have hsx:v.ownBlock≠some w.heap.size:=fun e=>by have:=(hob _ e).2;omega
 go_region_law (first
  |(refine step_append_lies _ (by rfl) _ _ _ (by rfl) (b+1) 44 i0 _ 5 88 Tryz.underlying25 hi hz0 hzz hz2 rfl (by omega) v P.length (aay P) (by rfl) ((show w4.drew.ownsRow (b+1) 44 5 v P.length (aay P) from hrow).alloc _)
     ⟨w4.heap.size,0,none⟩ 1 1 [.slice p4 N.length c4,.int .i64 i,.int .i64 k,.slice none 0 0,.slice sa s.length sc] (by rfl) (by rfl) (World.news_of_block (cs:=#[.slice p4 N.length c4,.int .i64 i,.int .i64 k,.slice none 0 0,.slice sa s.length sc]) (t:=44) (fr:=(0,0)) (heap_alloc_new w4.drew _)) (by simp[Value.oneCell'])
     (by omega) hkm (by omega) (by simp;omega) (w4.heap.size+1) (by simp) ?_;intro g5 cap5 w5 hown5 hgrow5 hat5 hlt5;have ho5:w5.cell? ⟨b,0,none⟩=some v:=(cell_grown hgrow5 (p:=⟨b,0,none⟩) (by simp;omega) (fun e=>hsg e.symm)).trans (gd _);have hf5:w5.frozen? ⟨b,0,none⟩=false:=(abW hgrow5 (p:=⟨b,0,none⟩) (by simp;omega) (fun e=>hsg e.symm)).trans (gfd _);
     have hx5:w5.cell? ⟨w.heap.size,0,none⟩=some (.int .i64 i):=(cell_grown hgrow5 (p:=⟨w.heap.size,0,none⟩) (by simp;omega) (fun e=>hsx e.symm)).trans (gx0 _);have hy5:w5.cell? ⟨w.heap.size,1,none⟩=some (.int .i64 k):=(cell_grown hgrow5 (p:=⟨w.heap.size,1,none⟩) (by simp;omega) (fun e=>hsx e.symm)).trans (gx1 _)))
 all_goals
  have hst:=H4.out.push HXV.out hgrow5 hown5 hat5;have HP:=ae hst;have hw5:b<w5.heap.size:=by have:=hgrow5.size;simp at this;omega
  clear hst hown5 hgrow5 hat5;go_wp2
  go_end0
  refine⟨rfl,_,_,?_,HP.out.1,(FrP.of HB4.out).trans HP.out.2⟩;unfold gps;rw[List.map_append]
  congr 1
  show[GV.gp ⟨N,i,k,[],s,p4,c4,none,0,sa,sc⟩]=_;unfold GV.gp;rw[HN.out,HO.out,HQ.out]
theorem afc{x y:T}{s:Sb}{b:Bool}{k:Int}(h:adk x y s b k):∀p∈s,p.2.size<=1000000000000:=by
 rcases h with⟨_,rfl,_,_⟩|⟨_,⟨_,rfl,_,_⟩|⟨m,_,⟨_,rfl,_,_⟩|⟨he,rfl,_,_⟩⟩⟩
 ·simp
 ·simp
 ·simp
 ·exact al4 he
theorem aiB{x y:T}{s:Sb}{b:Bool}{k:Int}(h:adk x y s b k):(b=false)\/(b=true/\k=0/\abG (fun θ=>x.sub θ=y.sub θ) s):=by
 rcases h with⟨_,rfl,rfl,_⟩|⟨_,⟨_,rfl,rfl,_⟩|⟨m,hm,⟨_,rfl,rfl,_⟩|⟨he,rfl,rfl,rfl⟩⟩⟩
 ·exact .inl rfl
 ·exact .inl rfl
 ·exact .inl rfl
 ·exact .inr ⟨rfl,rfl,hm⟩
theorem aeh(C:List LV):(t3s C).length=C.length:=by simp[t3s]
theorem adw:∀(C:List LV) (i:Nat),t3s (C.eraseIdx i)=(t3s C).eraseIdx i
 |[],i=>by simp[t3s]
 |x::C,0=>rfl
 |x::C,i+1=>by
  show x.t3::t3s (C.eraseIdx i)=x.t3::(t3s C).eraseIdx i;rw[adw C i]
theorem adY{C:List LV}{i:Nat}{x:LV}(h:C[i]? =some x):(t3s C)[i]? =some x.t3:=by simp[t3s,h]
section
variable {g:Sg} {C:List Lt3} {how:Int} {i:Nat} {x:Lt3} {s:Sb} {e:Int}
theorem awi(hn:x.neg=true)(hu:adk x.l x.r s false 0):eqS g C how i x=(none,0):=by
 obtain⟨u1,u2,u3⟩:=adv hu;unfold eqS;rw[if_pos hn,if_neg (by rw[u2];decide),u3];rfl
theorem asy(hn:x.neg=true)(hu:adk x.l x.r s false e)(he:e≠0):eqS g C how i x=(none,1):=by
 obtain⟨u1,u2,u3⟩:=adv hu;unfold eqS;rw[if_pos hn,if_neg (by rw[u2];decide),u3,decide_eq_true he];rfl
theorem auJ(hn:x.neg=true)(hu:adk x.l x.r s true 0)(hr:myR g C how i s=false)(he:myE g C how i s=0):eqS g C how i x=(none,0):=by
 obtain⟨u1,u2,u3⟩:=adv hu;unfold eqS;rw[if_pos hn,if_pos u2,u1,hr,he];rfl
theorem auK(hn:x.neg=true)(hu:adk x.l x.r s true 0)(he:myE g C how i s≠0):eqS g C how i x=(none,1):=by
 obtain⟨u1,u2,u3⟩:=adv hu;have hr:myR g C how i s=false:=by unfold myR;rw[if_neg he]
 unfold eqS;rw[if_pos hn,if_pos u2,u1,hr,decide_eq_true he];rfl
theorem asz(hn:x.neg=true)(hu:adk x.l x.r s true 0)(hr:myR g C how i s=true):
 acE s (C.eraseIdx i)=0/\aaN g (acL s (C.eraseIdx i))=0/\eqS g C how i x=(some ⟨nmL (tidy (acL s (C.eraseIdx i))),i,-1,[],s⟩,0):=by
 obtain⟨u1,u2,u3⟩:=adv hu;obtain⟨m1,m2⟩:=avN hr;obtain⟨k1,k2,k3⟩:=aos (g:=g) i m1 m2;refine⟨k1,k2,?_⟩;unfold eqS;rw[if_pos hn,if_pos u2,u1,hr,if_pos rfl,k3]
end
def RsC(x y:T)(w:World)(v4 v5 v6:Value)(wx:World):Prop:=∃(s:Sb) (ub:Bool) (uk:Int) (sa:Option Addr) (sc n0:Nat),v4= .slice sa s.length sc/\v5= .bool ub/\v6= .int .i64 uk/\w.heap.size<=n0/\abH (fun q=>n0<=q/\q<wx.heap.size) wx s sa sc/\Below w.heap.size w wx/\adk x y s ub uk
theorem amg(g:Sg)(C:List LV)(hCl:C.length<=1000)(hsz:∀x∈C,x.sz)(how:Int)(hhow:(Lit.int .i64 how).wf=true)(ga:Option Addr)(gc:Nat)(a:Option Addr)(c:Nat)(b:Nat)(v:Value)(P:List GV)(m:Nat)(hPl:P.length<=10000)(hm:m<=10000)(i:Nat)(x:LV)(hx:C[i]? =some x)(hn:x.n=true)
 (w:World) (h:PrS b (.slice ga g.length gc) (.slice a C.length c) (.int .i64 how) v P m w) (hG:aaX b w g ga gc) (hC:aaV b w C a c):
 Calls Tryz.prog 26 #[.pointer (some ⟨b,0,none⟩),.int .i64 (i:Int)] w (ag2 b (.slice ga g.length gc) (.slice a C.length c) (.int .i64 how) v (gps P++(eqS g (t3s C) how i x.t3).1.toList) (m+(eqS g (t3s C) how i x.t3).2) w):=by
 have hi:=(ah.1 hx).1;have hlt:=h.lt;have hxz:=hsz x (ak hx);obtain⟨bb,oo,y,rfl,hbb,hy,⟨e0,e1,e2,e3,e4⟩,hxl⟩:=hC.elem hi;have hyx:y=x:=by rw[hx] at hy;exact(Option.some.inj hy).symm
 subst hyx;have hD:Below w.heap.size w w.drew:=(ag _ _).drew;have hDb:Below b w w.drew:=hD.mono (by omega);have CM:=ae (ano y.l y.r hxz.1 hxz.2 b y.pa y.ca y.pb y.cb w.drew (by show b<=w.heap.size;omega) hxl.lw hxl.rw (hxl.la.below hDb) (hxl.ra.below hDb));have H:=ae h;have HG:=ae hG;have HC:=ae hC;have HY:=ae hx;have HSZ:=ae hsz;have HW:=ae hhow;have HDR:=ae hD;obtain⟨c0,c1,c2,c3,c4,f0,f1⟩:=h.cells;have hk0:(0:Int)<=(i:Int):=by omega
 have hk1:(i:Int)<(C.length:Int):=by omega
 have hbw:bb<w.heap.size:=by omega
 clear h hG hC hxl hy hx hsz hhow hD hDb hxz c0 c1 c2 c4 f0 f1;go_enter Tryz.func26,Tryz.ntmps26
 go_upto_region 0 with fail
 go_cut [4,5,6] from 8 to 27 (fun v4 v5 v6 wx=>RsC y.l y.r w v4 v5 v6 wx)
 case first=>
  go_region_law (first|(go_simp;go_at_call 57;refine CM.out.mono ?_;rintro e w2 ⟨w0,hb0,hmp⟩;obtain⟨s,ub,uk,sa,sc,rfl,hs,hb2,hR⟩:=amV hmp))
  all_goals
   have hw0:=hb0.size;have hc:=ae (show RsC y.l y.r w (.slice sa s.length sc) (.bool ub) (.int .i64 uk) w2 from⟨s,ub,uk,sa,sc,w0.heap.size,rfl,rfl,rfl,hw0,hs,HDR.out.trans (hb0.trans (hb2.mono hb0.size)),hR⟩);clear hb0 hb2 hmp hs hR
   go_wp2_with fail
   go_meet
   exact hc.out
 case rest=>
 obtain⟨s,ub,uk,sa,sc,n0,rfl,rfl,rfl,hw0,hs,hB2,hR⟩:=hcut;generalize wc=w2 at*;have h2:=H.out.later hB2
 have HS:Hid (abH (fun q=>¬PF b v q/\isC w2 q) w2 s sa sc):=ae (hs.isC.keep (fun _ _=>rfl) (fun q hq=>⟨fun e=>by
  have hq1:=hq.1.1
  rcases e with e|e
  ·have:=H.out.lt;omega
  ·have:=(H.out.ob e).2.lt;omega,hq.2⟩))
 have HB2:=ae hB2;have H2:=ae h2;have HR:=ae hR;have hz2:=hB2.size;clear hB2 h2 hs hw0 e0 e1 e2 e3 e4 c3 CM
 rcases aiB hR with rfl|⟨rfl,rfl,_⟩
 ·
  clear hR;by_cases hk:uk=0
  ·subst hk;go_wp2
   go_end0
   rw[awi hn HR.out];exact⟨rfl,v,P,by simp,H2.out,FrP.of HB2.out⟩
  ·have hk2:(uk != 0)=true:=by simpa using hk
   have HK:=ae hk;have CL:=ae (afT b _ _ _ v P m (by omega) w2 H2.out);clear hk
   go_wp2_with fail
   refine CL.out.mono ?_;rintro e w3 ⟨rfl,v',G,hGp,hP3,hF3⟩;have HP3:=ae (And.intro hGp (And.intro hP3 hF3));clear hGp hP3 hF3 CL;go_wp2
   go_end0
   rw[asy hn HR.out HK.out];exact⟨rfl,v',G,by rw[HP3.out.1];simp,HP3.out.2.1,(FrP.of HB2.out).trans HP3.out.2.2⟩
 ·
  have hbw2:b<w2.heap.size:=by omega
  have hBb:Below b w w2.drew:=(HB2.out.mono (by omega)).drew;have CY:=ae (asm g C HSZ.out how i s (afc hR) w2.heap.size ga gc (some ⟨bb,oo,none⟩) c sa sc w2.drew (af _) ((HG.out.below hBb).mono (by omega)) ((HC.out.below hBb).mono (by omega)) ((HS.out.bs fun q hq=>hq.2.lt).below (ag _ _).drew));obtain⟨c0,c1,c2,c3,c4,f0,f1⟩:=H2.out.cells;have hw:=HW.out;have hss:=afc hR;have HSS:=ae hss;obtain⟨eE,heE⟩:∃k,myE g (t3s C) how i s=k:=⟨_,rfl⟩;obtain⟨rR,hrR⟩:∃r,myR g (t3s C) how i s=r:=⟨_,rfl⟩;have HE:=ae (And.intro heE hrR);clear hR hBb c0 c1 f0 f1 hss
  go_upto_region 2 with fail
  go_cut [5,6] from 30 to 46 (fun v5 v6 wx=>v5= .bool rR/\v6= .int .i64 eE/\Below w2.heap.size w2 wx)
  case first=>
   go_region_law (first|(go_simp;go_at_call 58;refine CY.out.mono ?_;rintro e w3 ⟨rfl,hb3⟩;rw[heE,hrR]))
   all_goals
    have hc:=ae (show Below w2.heap.size w2 w3 from(ag _ _).drew.trans hb3);clear hb3
    go_wp2_with fail
    go_meet
    exact⟨rfl,rfl,hc.out⟩
  case rest=>
  obtain⟨rfl,rfl,hB3⟩:=hcut;generalize wc=w3 at*;have hB3':Below w.heap.size w w3:=HB2.out.trans (hB3.mono hz2);have h3:=H2.out.later hB3;have hs3:=HS.out.keep (ok':=fun q=>¬PF b v q/\isC w3 q) (w':=w3) (fun q hq=>hB3.block q hq.2.lt) (fun q hq=>⟨hq.1,hq.2.keep (hB3.block q hq.2.lt)⟩);have HB3:=ae hB3';have H3:=ae h3;have HS3:=ae hs3;have hz3:=hB3'.size;clear hB3 hB3' h3 hs3 heE hrR CY c2 c3 c4;by_cases hk:eE=0
  ·subst hk;cases rR with
   |false=>
    go_wp2
    go_end0
    rw[auJ hn HR.out HE.out.2 HE.out.1];exact⟨rfl,v,P,by simp,H3.out,FrP.of HB3.out⟩
   |true=>
    obtain⟨k1,k2,k3⟩:=asz (g:=g) (C:=t3s C) (how:=how) (i:=i) (x:=y.t3) hn HR.out HE.out.2;have hBb:Below b w w3.drew:=(HB3.out.mono (by omega)).drew;have CW:=ae (ac9 C i hi hCl b (some ⟨bb,oo,none⟩) c w3.drew (by show b<=w3.heap.size;omega) (HC.out.below hBb))
    have CO:=ae (fun(W:World) (hW:Below w3.heap.size w3 W) (vo:Value) (hO:OL (· <b) w3.heap.size vo (C.eraseIdx i) W)=>show ∃ao co,vo= .slice ao (C.eraseIdx i).length co/\Calls Tryz.prog 60 #[.pointer (some ⟨b,0,none⟩),.slice ao (C.eraseIdx i).length co,.agg #[.int .i64 (i:Int),.int .i64 (-1)],.slice sa s.length sc] W (ag2 b (.slice ga g.length gc) (.slice (some ⟨bb,oo,none⟩) C.length c) (.int .i64 how) v (gps P++[⟨nmL (tidy (acL s (t3s (C.eraseIdx i)))),i,-1,[],s⟩]) m W) from by
     obtain⟨ao,co,rfl,hIo⟩:=hO.args (fun q hq=>by have:=hW.size;omega);refine⟨ao,co,rfl,?_⟩;exact afA g b _ _ _ v P m hPl (C.eraseIdx i) i (-1) s HSS.out (fun z hz=>HSZ.out z (List.mem_of_mem_eraseIdx hz)) (by rw[adw];exact k1) (by rw[adw];exact k2) (afb (by omega)) (by decide) W (H3.out.later hW) ao co sa sc hIo (HS3.out.keep (fun q hq=>hW.block q hq.2.lt) (fun q hq=>⟨hq.1,hq.2.keep (hW.block q hq.2.lt)⟩)))
    obtain⟨c0,c1,c2,c3,c4,f0,f1⟩:=H3.out.cells;have K3:=ae k3;have hbw3:b<w3.heap.size:=by omega
    clear hBb c0 c1 c2 c4 f0 f1 k1 k2 k3
    go_wp2_with fail
    go_region_law (first
     |(go_simp;go_at_call 61;refine CW.out.mono ?_;rintro e w4 ⟨vo,rfl,hO4,hb4⟩;have hB4:Below w3.heap.size w3 w4:=(ag _ _).drew.trans hb4;obtain⟨ao,co,rfl,CO4⟩:=CO.out w4 hB4 vo hO4)
     |(go_simp;go_at_call 60;refine CO4.mono ?_;rintro e w5 ⟨rfl,v5,G5,hG5,hP5,hF5⟩))
    all_goals
     have HP5:=ae (And.intro hG5 (And.intro hP5 ((FrP.of (HB3.out.trans (hB4.mono hz3))).trans hF5)));clear hG5 hP5 hF5 CO4 hO4 hB4 hb4;go_wp2
     go_end0
     rw[K3.out];exact⟨rfl,v5,G5,by rw[HP5.out.1,adw];rfl,HP5.out.2.1,HP5.out.2.2⟩
  ·have hk2:(eE != 0)=true:=by simpa using hk
   have HK:=ae hk;have CL:=ae (afT b _ _ _ v P m (by omega) w3 H3.out);clear hk
   go_wp2_with fail
   refine CL.out.mono ?_;rintro e w4 ⟨rfl,v',G,hGp,hP4,hF4⟩;have HP4:=ae (And.intro hGp (And.intro hP4 hF4));clear hGp hP4 hF4 CL;go_wp2
   go_end0
   rw[auK hn HR.out (by rw[HE.out.1];exact HK.out)];exact⟨rfl,v',G,by rw[HP4.out.1];simp,HP4.out.2.1,(FrP.of HB3.out).trans HP4.out.2.2⟩
theorem one_le(b:Bool):one b<=1:=by cases b<;>simp[one]
theorem aqu(g:Sg)(C:List Lt3)(how:Int)(i:Nat)(x:Lt3):(eqS g C how i x).1.toList.length+(eqS g C how i x).2<=1:=by
 unfold eqS;split
 ·split
  ·split
   ·split<;>simp
   ·simpa using one_le _
  ·simpa using one_le _
 ·simp
theorem aqv(g:Sg)(C:List Lt3)(how:Int):∀k:Nat,(eqF g C how k).1.length+(eqF g C how k).2<=k
 |0=>by simp[eqF]
 |k+1=>by
  have h1:=aqv g C how k;have h2:=aqu g C how k (C.getD k z3);rw[eqF];simp only[aK];omega
theorem aqw(g:Sg)(C:List Lt3)(how:Int):(eqG g C how).length<=C.length:=by
 unfold eqG;split
 ·have:=aqv g C how C.length;omega
 ·simp
theorem aqx(g:Sg)(C:List Lt3)(i k a b:Nat):(faS g C i k a b).1.toList.length+(faS g C i k a b).2<=1:=by
 unfold faS;split
 ·simp
 ·split
  ·simp
  ·split
   ·simp
   ·split
    ·simp
    ·split
     ·simp
     ·split<;>simp
theorem atn(g:Sg)(C:List Lt3)(i k:Nat):∀n:Nat,(fa4 g C i k n).1.length+(fa4 g C i k n).2<=n
 |0=>by simp[fa4]
 |n+1=>by
  have h1:=atn g C i k n;have h2:=aqx g C i k (n/2) (n%2);rw[fa4];simp only[aK];omega
theorem aqy(g:Sg)(C:List Lt3)(i:Nat):∀k:Nat,(faK g C i k).1.length+(faK g C i k).2<=4*k
 |0=>by simp[faK]
 |k+1=>by
  have h1:=aqy g C i k;have h2:=atn g C i k 4;rw[faK];split
  ·simp only[aK];omega
  ·omega
theorem ato(g:Sg)(C:List Lt3):∀i:Nat,(faF g C i).1.length+(faF g C i).2<=i*(4*C.length)
 |0=>by simp[faF]
 |i+1=>by
  have h1:=ato g C i;have h2:=aqy g C i C.length;rw[faF,Nat.succ_mul];simp only[aK];omega
theorem ak1(g:Sg){C:List Lt3}(hC:C.length<=8){i:Nat}(hi:i<=C.length):(faF g C i).1.length+(faF g C i).2<=256:=by
 have h1:=ato g C i;have h2:i*(4*C.length)<=8*(4*8):=Nat.mul_le_mul (by omega) (by omega);omega
theorem aqz(g:Sg){C:List Lt3}(how:Int)(hC:C.length<=8):(faG g C how).length<=256:=by
 unfold faG;split
 ·split
  ·have:=ak1 g hC (af _);omega
  ·simp
 ·simp
def axp(g:Sg)(C:List LV)(how:Int)(gv cv:Value)(w2:World)(i:Value)(wr:World):Prop:=
 ∃(k:Nat) (v:Value) (G:List GV),k<=C.length/\i= .int .i64 k/\gps G=(eqF g (t3s C) how k).1/\PrS w2.heap.size gv cv (.int .i64 how) v G (eqF g (t3s C) how k).2 wr/\Below w2.heap.size w2 wr
theorem afW{g:Sg}{C:List LV}{how:Int}{k:Nat}{x:LV}(hx:C[k]? =some x):eqF g (t3s C) how (k+1)=((eqF g (t3s C) how k).1++(eqS g (t3s C) how k x.t3).1.toList,(eqF g (t3s C) how k).2+(eqS g (t3s C) how k x.t3).2):=by
 rw[eqF,aaD (adY hx)]
theorem aqA{g:Sg}{C:List Lt3}{how:Int}{i:Nat}{x:Lt3}(h:x.neg=false):eqS g C how i x=(none,0):=by
 unfold eqS;rw[if_neg (by rw[h];decide)]
theorem afd:asg:=by
 intro g P how hF aM ga gc a c w hn hhow hG hP;have hCl:P.length<=8:=hF.1;have hlc:P.length<=c/\c<=maxLen:=⟨hP.1,hP.2.1⟩;have HLC:=ae hlc;have HSZ:=ae hF.sz;have HG:=ae (hG.mono hn);have HP:=ae (hP.mono hn);have HW:=ae hhow;have CS:=ae (ada g P hF.sz how aM ga gc a c w hn hG hP);clear hG hP hF hlc hhow;go_enter Tryz.func8,Tryz.ntmps8
 go_wp2_with fail
 refine CS.out.mono ?_;rintro e w2 ⟨p2,c2,rfl,_,hb2⟩;have HB2:=ae hb2;have hz2:=hb2.size;clear hb2 CS;by_cases hse:seE g (t3s P) how=0
 case neg=>
  have h1:eqG g (t3s P) how=[]:=by unfold eqG;rw[if_neg hse]
  have h2:eqN g (t3s P) how=0:=by unfold eqN;rw[if_neg hse]
  obtain⟨k,hk⟩:∃k,seE g (t3s P) how=k:=⟨_,rfl⟩;have HN:=ae (And.intro h1 (And.intro h2 hk));rw[hk] at hse ⊢;have h3:(k != 0)=true:=by simpa using hse
  clear hse hk h1 h2;go_wp2;go_ret3;exact⟨[],none,0,HN.out.1.symm,fun _=>rfl,by rw[HN.out.2.1,HN.out.2.2];rfl,ahl.nil _ _ _ (by simp[maxLen]),HB2.out⟩
 have HSE:=ae hse;rw[hse];clear hse;have hlc:=HLC.out;unfold maxLen at hlc;obtain⟨hlc1,hlc2⟩:=hlc;obtain⟨w3,hw3⟩:∃w3,w2.alloc (.cells #[.slice none 0 0,.int .i64 0,.slice ga g.length gc,.slice a P.length c,.int .i64 how] 57)=w3:=⟨_,rfl⟩;have hb3:Below w2.heap.size w2 w3:=by rw[←hw3];exact(ag _ _).alloc (af _) _
 have hbox:w3.heap[w2.heap.size]? =some (.cells #[.slice none 0 0,.int .i64 (0:Nat),.slice ga g.length gc,.slice a P.length c,.int .i64 how] 57 (0,0)):=by rw[←hw3];exact heap_alloc_new w2 _
 have HP0:=ae (show PrS w2.heap.size (.slice ga g.length gc) (.slice a P.length c) (.int .i64 how) (.slice none 0 0) [] 0 w3 from⟨hbox,⟨by simp[aay],.inl ⟨rfl,rfl⟩⟩,by simp⟩);have HB3:=ae hb3;clear hb3 hbox;go_wp2;clear hw3
 go_loopw [30] (fun i wr=>axp g P how (.slice ga g.length gc) (.slice a P.length c) w2 i wr) (fun i _=>P.length-(intOf i).toNat)
 case atStart=>exact⟨0,_,[],Nat.zero_le _,rfl,rfl,HP0.out,HB3.out⟩
 case round=>
  clear HP0 HB3;obtain⟨k,v,G,hk,rfl,hG,hPr,hB⟩:=hrel;have HPR:=ae hPr;have HB:=ae hB;have HGP:=ae hG;have hbz:=hB.size;have hbl:=hPr.lt;have hle:=aqv g (t3s P) how k;have hgl:G.length<=8/\(eqF g (t3s P) how k).2<=8:=by rw[acj hG];omega
  by_cases hlt:k<P.length
  ·obtain⟨bb,oo,x,rfl,hbb,hx,⟨e0,e1,e2,e3,e4⟩,hxl⟩:=(HP.out.below (HB2.out.trans (hB.mono hz2))).elem (i:=k) hlt;have hk0:(0:Int)<=(k:Int):=by omega
   have hk1:(k:Int)<(P.length:Int):=by omega
   have hbw:bb<wr.heap.size:=by omega
   have HX:=ae hx;have HAL:=ae (show Below wr.heap.size wr (wr.alloc (.cells #[.bool x.n,.int .i64 x.l.head,.slice x.pa x.l.args.length x.ca,.int .i64 x.r.head,.slice x.pb x.r.args.length x.cb] 62)) from(ag _ _).alloc (af _) _);cases hn:x.n with
   |false=>
    have HN:=ae (show x.t3.neg=false from hn);rw[hn] at e0;have HNN:=ae hn;clear hx hxl hPr hB hG hle hgl hn;go_wp2
    go_roundw
    case rel=>
     have hal:=(HAL.out);rw[HNN.out] at hal;refine⟨k+1,v,G,by omega,by go_num,?_,?_,HB.out.trans (hal.mono hbz)⟩
     ·rw[afW HX.out,aqA HN.out,HGP.out];simp
     ·rw[afW HX.out,aqA HN.out];exact HPR.out.later hal
    case measure=>simp[intOf];omega
   |true=>
    have HN:=ae (show x.t3.neg=true from hn);have hal:=HAL.out;rw[hn] at e0 hal;have hB1:Below w2.heap.size w2 (wr.alloc (.cells #[.bool true,.int .i64 x.l.head,.slice x.pa x.l.args.length x.ca,.int .i64 x.r.head,.slice x.pb x.r.args.length x.cb] 62)):=hB.trans (hal.mono hbz);have CR:=ae (amg g P (by omega) HSZ.out how HW.out ga gc (some ⟨bb,oo,none⟩) c w2.heap.size v G (eqF g (t3s P) how k).2 (by omega) (by omega) k x hx hn (wr.alloc (.cells #[.bool true,.int .i64 x.l.head,.slice x.pa x.l.args.length x.ca,.int .i64 x.r.head,.slice x.pb x.r.args.length x.cb] 62)) (hPr.later hal) ((HG.out.below (HB2.out.trans (hB1.mono hz2))).mono hz2) ((HP.out.below (HB2.out.trans (hB1.mono hz2))).mono hz2));have HB1:=ae hB1;clear hx hxl hPr hB hG hle hgl hn hal hB1
    go_wp2_with fail
    refine CR.out.mono ?_;rintro e w5 ⟨rfl,v5,G5,hG5,hP5,hF5⟩;have hob:=fun q (hq:v.ownBlock=some q)=>(HPR.out.ob hq).1;have hB5:=hF5.below (B:=w2.heap.size) HB1.out.size (af _) (fun q hq=>by have:=hob q hq;omega);have HP5:=ae (And.intro hG5 (And.intro hP5 (HB1.out.trans hB5)));clear hG5 hP5 hF5 hob hB5 CR;go_wp2
    go_roundw
    case rel=>
     refine⟨k+1,v5,G5,by omega,by go_num,?_,?_,HP5.out.2.2⟩
     ·rw[afW HX.out,HP5.out.1,HGP.out]
     ·rw[afW HX.out];exact HP5.out.2.1
    case measure=>simp[intOf];omega
  ·obtain rfl:k=P.length:=by omega
   obtain⟨c0,c1,_,_,_,_,_⟩:=hPr.cells;obtain⟨ra,rc,rfl,hnil,hGS⟩:=hPr.gs;have HF:=ae (And.intro hnil hGS);have HQ:=ae (HB2.out.trans (hB.mono hz2))
   have HEN:=ae (show gps G=eqG g (t3s P) how/\(eqF g (t3s P) how P.length).2=eqN g (t3s P) how from by
    have hl:(t3s P).length=P.length:=aeh P;unfold eqG eqN;rw[if_pos HSE.out,if_pos HSE.out,hl];exact⟨hG,rfl⟩)
   clear hPr hB hG hle hgl hnil hGS;go_wp2
   go_quiet (fail)
   go_wp2;go_ret3;exact⟨G,ra,rc,HEN.out.1,HF.out.1,by rw[←HEN.out.2,HSE.out];rfl,HF.out.2.below ⟨rfl,rfl,rfl,af _,fun _ _=>rfl⟩,HQ.out.trans ⟨rfl,rfl,rfl,af _,fun _ _=>rfl⟩⟩
theorem amh{g:Sg}(hg:aan g=true):aap g 0=true:=by
 unfold aan at hg;simp only[Bool.and_eq_true,decide_eq_true_eq] at hg;unfold aap;rw[show(0:Int).toNat=0 from rfl,hg.1.1.2];rfl
theorem aqB{g:Sg}{t:T}(h:sortT g t=1):aap g t.head=true/\t.head≠0:=by
 unfold sortT at h;split at h
 ·omega
 ·rename_i h0;split at h
  ·rename_i hp;exact⟨hp,h0⟩
  ·omega
theorem aqC{g:Sg}{t:T}(h:sortT g t=0):aap g t.head=false/\t.head≠0:=by
 unfold sortT at h;split at h
 ·omega
 ·rename_i h0;split at h
  ·omega
  ·rename_i hp;exact⟨by simpa using hp,h0⟩
theorem aiC{g:Sg}{x:Lt3}{a:Nat}(h:abn g x.l x.r=0):(sortT g (aae x a).1=1->(aae x a).2.head=0)/\(sortT g (aae x a).1=0->aap g (aae x a).2.head=false):=by
 obtain⟨e1,e2,e3⟩:=ai5 h;unfold ace at e3;unfold aae;by_cases ha:a=0
 ·rw[if_pos ha];refine⟨fun hs=> ?_,fun hs=> ?_⟩
  ·have:=(aqB hs).1;show x.r.head=0;rw[show aap g x.l.head=true from this,if_pos rfl] at e3;by_cases hr:x.r.head=0
   ·exact hr
   ·rw[if_neg hr] at e3;omega
  ·have:=(aqC hs).1;show aap g x.r.head=false;rw[show aap g x.l.head=false from this,if_neg (by decide)] at e3;cases hq:aap g x.r.head with
   |false=>rfl
   |true=>rw[hq,if_pos rfl] at e3;omega
 ·rw[if_neg ha];refine⟨fun hs=> ?_,fun hs=> ?_⟩
  ·obtain⟨h1,h0⟩:=aqB hs;have h1':aap g x.r.head=true:=h1;have h0':x.r.head≠0:=h0;cases hp:aap g x.l.head with
   |true=>rw[hp,if_pos rfl,if_neg h0'] at e3;omega
   |false=>rw[hp,if_neg (by decide),h1',if_pos rfl] at e3;omega
  ·obtain⟨h1,h0⟩:=aqC hs;have h0':x.r.head≠0:=h0;show aap g x.l.head=false;cases hp:aap g x.l.head with
   |true=>rw[hp,if_pos rfl,if_neg h0'] at e3;omega
   |false=>rfl
theorem auL{g:Sg}{C:List Lt3}{s:Sb}{i k a b:Nat}{x z:Lt3}(hc:aaN g C=0)(hx:C[i]? =some x)(hz:C[k]? =some z)(s1:sortT g (aae x a).1=sortT g (aae z b).1)(s2:sortT g (aae x a).1≠2)(hu:abG (fun θ=>(aae x a).1.sub θ=(aae z b).1.sub θ) s)(ha:acE s C=0)(hd:aaN g (acL s C)=0):
 acE s (C.eraseIdx i++[⟨true,(aae x a).2,(aae z b).2⟩])=0/\aaN g (acL s (C.eraseIdx i++[⟨true,(aae x a).2,(aae z b).2⟩]))=0/\adj g (C.eraseIdx i++[⟨true,(aae x a).2,(aae z b).2⟩]) s=some (nmL (tidy (acL s (C.eraseIdx i++[⟨true,(aae x a).2,(aae z b).2⟩])))):=by
 have hxm:=ak hx;have hzm:=ak hz;have lx:=(aba hc).2.2 x hxm;have lz:=(aba hc).2.2 z hzm;have ex:=acK (a:=a) lx;have ez:=acK (a:=b) lz;have hσ:∀v:Int,0<=v->v<=255->aap g (ofS s v).head=false:=fun v h0 h1=>ajs hu (akK ex.1 ez.1 s1 s2) h0 h1;obtain⟨a1,a2,a3⟩:=agO ha;obtain⟨c1,c2,c3⟩:=aba hd
 have side:∀(y:Lt3) (n:Nat),y∈C->aeN s (aae y n).2=0/\abe s (aae y n).2=(aae y n).2.sub (ofS s)/\aaH g (abe s (aae y n).2)=0:=fun y n hy=>by
  obtain⟨p1,p2⟩:=alW (a2 y hy);obtain⟨q1,q2⟩:=abq (c3 (ap3 s y) (by rw[a3];exact List.mem_map.2 ⟨y,hy,rfl⟩));unfold aae;split
  ·exact⟨p2,(acs p2).1,q2⟩
  ·exact⟨p1,(acs p1).1,q1⟩
 obtain⟨t1,t2,t3⟩:=side x a hxm;obtain⟨v1,v2,v3⟩:=side z b hzm;have hz0:=amh c1
 have hlit:abn g (abe s (aae x a).2) (abe s (aae z b).2)=0:=by
  refine apg t3 v3 ?_;have p1:=aiC lx (a:=a);have p2:=aiC lz (a:=b)
  have hs:sortT g (aae x a).1=0\/sortT g (aae x a).1=1:=by
   unfold sortT at s2 ⊢;split
   ·rename_i h;rw[if_pos h] at s2;exact absurd rfl s2
   ·split
    ·exact .inr rfl
    ·exact .inl rfl
  rw[t2,v2];unfold ace
  rcases hs with hs|hs
  ·have hv:∀t:T,bad (T.subs 1 t)=false->aap g t.head=false->aap g (t.sub (ofS s)).head=false:=fun t hb hp=>by
    by_cases h0:t.head<0
    ·obtain⟨w0,w1,_⟩:=aaT hb h0;rw[T.sub_neg h0];exact hσ _ w0 w1
    ·rw[T.sub_pos h0,T.head_node];exact hp
   rw[hv _ (adE ex.2) (p1.2 hs),hv _ (adE ez.2) (p2.2 (by rw[←s1];exact hs))];rfl
  ·have hv:∀t:T,t.head=0->(t.sub (ofS s)).head=0:=fun t h0=>by
    rw[T.sub_pos (by omega),T.head_node];exact h0
   rw[hv _ (p1.1 hs),hv _ (p2.1 (by rw[←s1];exact hs)),hz0];rfl
 have hxi:i<C.length:=(ah.1 hx).1
 have hlen:(C.eraseIdx i++[(⟨true,(aae x a).2,(aae z b).2⟩:Lt3)]).length<=32:=by
  rw[aK,List.length_eraseIdx,if_pos hxi];simp;omega
 have hak:∀y∈C.eraseIdx i++[(⟨true,(aae x a).2,(aae z b).2⟩:Lt3)],ak3 s y=0:=fun y hy=>by
  rcases aG.1 hy with hy|hy
  ·exact a2 y (ab2 hy)
  ·obtain rfl:=List.mem_singleton.1 hy;unfold ak3;rw[if_pos t1];exact v1
 obtain⟨b1,b2⟩:=awg hlen hak
 suffices hr:aaN g (acL s (C.eraseIdx i++[⟨true,(aae x a).2,(aae z b).2⟩]))=0 from⟨b1,hr,aqs b1 hr⟩
 rw[b2];refine ai7 c1 (by rw[List.length_map];exact hlen) fun y hy=> ?_;obtain⟨w,hw,rfl⟩:=List.mem_map.1 hy
 rcases aG.1 hw with hw|hw
 ·exact c3 _ (by rw[a3];exact List.mem_map.2 ⟨w,ab2 hw,rfl⟩)
 ·obtain rfl:=List.mem_singleton.1 hw;exact hlit
def mfE(g:Sg)(C:List Lt3)(s:Sb):Int:=if acE s C≠0 then acE s C else aaN g (acL s C)
def mfR(g:Sg)(C:List Lt3)(s:Sb)(i:Nat)(a b:T):Bool:=if mfE g C s=0 then(ase g s a b&&ali g (acL s C) i false) else false
theorem atp{g:Sg}{C:List Lt3}{s:Sb}(h:mfE g C s=0):acE s C=0/\aaN g (acL s C)=0:=by
 unfold mfE at h;split at h
 ·contradiction
 ·rename_i h1;exact⟨by simpa using h1,h⟩
theorem auM{g:Sg}{s:Sb}{a b:T}(h1:aeN s a=0)(h2:aeN s b=0)(e1:aaH g (abe s a)=0)(e2:aaH g (abe s b)=0):ase g s a b=(decide (abp g (abe s a) (abe s b)≠ -1)&&decide (abp g (abe s a) (abe s b)≠0)):=by
 have h3:abM g [abe s a,abe s b]=0:=by
  unfold abM;rw[if_neg (fun e=>e e1)];unfold abM;rw[if_neg (fun e=>e e2)];rfl
 unfold ase;simp[h1,h2,h3]
def ane(g:Sg)(s u:T):Bool:=decide (s.head≠0)&&decide (u.head≠0)&&(aap g s.head==aap g u.head)
theorem ade{g:Sg}{s u:T}:ane g s u=true↔¬(sortT g s≠sortT g u\/sortT g s=2):=by
 unfold ane sortT;by_cases h1:s.head=0
 ·simp[h1]
 ·by_cases h2:u.head=0
  ·simp[h1,h2]
  ·cases p1:aap g s.head<;>cases p2:aap g u.head<;>simp[h1,h2]
section
variable {g:Sg} {C:List Lt3} {i k p q:Nat} {x z:Lt3} {s:Sb} {b:Bool} {e:Int}
theorem asA(hx:C[i]? =some x)(hz:C[k]? =some z)(ht:ane g (aae x p).1 (aae z q).1=true)(hu:adk (aae x p).1 (aae z q).1 s b e)(he:e≠0):faS g C i k p q=(none,1):=by
 obtain⟨u1,u2,u3⟩:=adv hu;unfold faS;rw[aaD hx,aaD hz,if_neg (ade.1 ht),if_pos (by rw[u3];exact he)]
theorem awj(hx:C[i]? =some x)(hz:C[k]? =some z)(ht:ane g (aae x p).1 (aae z q).1=true)(hu:adk (aae x p).1 (aae z q).1 s false 0):faS g C i k p q=(none,0):=by
 obtain⟨u1,u2,u3⟩:=adv hu;unfold faS;rw[aaD hx,aaD hz,if_neg (ade.1 ht),if_neg (by rw[u3];simp),if_pos u2]
theorem auN(hx:C[i]? =some x)(hz:C[k]? =some z)(ht:ane g (aae x p).1 (aae z q).1=true)(hu:adk (aae x p).1 (aae z q).1 s true 0)(hm:mfE g C s≠0):faS g C i k p q=(none,1):=by
 obtain⟨u1,u2,u3⟩:=adv hu;unfold faS;rw[aaD hx,aaD hz,if_neg (ade.1 ht),if_neg (by rw[u3];simp),if_neg (by rw[u2];simp),u1,if_pos ?_];unfold mfE at hm;split at hm
 ·exact .inl hm
 ·exact .inr hm
theorem auO(hx:C[i]? =some x)(hz:C[k]? =some z)(ht:ane g (aae x p).1 (aae z q).1=true)(hu:adk (aae x p).1 (aae z q).1 s true 0)(hm:mfE g C s=0)(hr:mfR g C s i (aae x p).1 (aae x p).2=false):faS g C i k p q=(none,0):=by
 obtain⟨u1,u2,u3⟩:=adv hu;obtain⟨m1,m2⟩:=atp hm;unfold faS;rw[aaD hx,aaD hz,if_neg (ade.1 ht),if_neg (by rw[u3];simp),if_neg (by rw[u2];simp),u1,if_neg (by simp[m1,m2]),if_pos ?_];unfold mfR at hr;rw[if_pos hm,Bool.and_eq_false_iff] at hr;exact hr
theorem asB(hc:aaN g C=0)(hx:C[i]? =some x)(hz:C[k]? =some z)(ht:ane g (aae x p).1 (aae z q).1=true)(hu:adk (aae x p).1 (aae z q).1 s true 0)(hm:mfE g C s=0)(hr:mfR g C s i (aae x p).1 (aae x p).2=true):
 acE s (C.eraseIdx i++[⟨true,(aae x p).2,(aae z q).2⟩])=0/\aaN g (acL s (C.eraseIdx i++[⟨true,(aae x p).2,(aae z q).2⟩]))=0/\
  faS g C i k p q=(some ⟨nmL (tidy (acL s (C.eraseIdx i++[⟨true,(aae x p).2,(aae z q).2⟩]))),i,k,[],s⟩,0):=by
 obtain⟨u1,u2,u3⟩:=adv hu;obtain⟨m1,m2⟩:=atp hm
 have hmgu:abG (fun θ=>(aae x p).1.sub θ=(aae z q).1.sub θ) s:=by
  rcases hu with⟨_,_,h,_⟩|⟨_,⟨_,_,h,_⟩|⟨m,hm,⟨_,_,h,_⟩|⟨_,h3,_,_⟩⟩⟩
  ·cases h
  ·cases h
  ·cases h
  ·rw[h3];exact hm
 have hts:=ade.1 ht;simp only[not_or,Decidable.not_not,ne_eq] at hts;obtain⟨k1,k2,k3⟩:=auL hc hx hz hts.1 hts.2 hmgu m1 m2;refine⟨k1,k2,?_⟩;unfold mfR at hr;rw[if_pos hm,Bool.and_eq_true] at hr;unfold faS;rw[aaD hx,aaD hz,if_neg (ade.1 ht),if_neg (by rw[u3];simp),if_neg (by rw[u2];simp),u1,if_neg (by simp[m1,m2]),if_neg (by simp[hr.1,hr.2]),k3]
end
def sdY(x:LV)(a:Nat):LV:=if a=0 then x else x.turn
theorem ajI(x:LV)(a:Nat):(sdY x a).l=(aae x.t3 a).1:=by unfold sdY aae;split<;>rfl
theorem auP(x:LV)(a:Nat):(sdY x a).r=(aae x.t3 a).2:=by unfold sdY aae;split<;>rfl
theorem atq{n:Nat}{w:World}{x:LV}(h:aa1 n w x)(a:Nat):aa1 n w (sdY x a):=by
 unfold sdY;split
 ·exact h
 ·exact h.turn
theorem aqD{x:LV}(h:x.sz)(a:Nat):(sdY x a).sz:=by
 unfold sdY;split
 ·exact h
 ·exact⟨h.2,h.1⟩
abbrev sdV(i:Nat)(y:LV):Value:= .agg #[.int .i64 (i:Int),.int .i64 y.l.head,.slice y.pa y.l.args.length y.ca,.int .i64 y.r.head,.slice y.pb y.r.args.length y.cb]
abbrev sdC(i:Nat)(y:LV):Array Value:=#[.int .i64 (i:Int),.int .i64 y.l.head,.slice y.pa y.l.args.length y.ca,.int .i64 y.r.head,.slice y.pb y.r.args.length y.cb]
theorem afB(t:T)(a:Option Addr)(c:Nat)(w:World):Calls Tryz.prog 121 #[tm t.head a t.args.length c] w fun e w'=>e= .returned (.bool (decide (t.head=0)))/\Below w.heap.size w w':=by
 have hF:Below w.heap.size w (w.alloc (aaa t.head a t.args.length c)):=(ag _ w).alloc (af _) _;have HF:=ae hF;clear hF;go_enter Tryz.func121,Tryz.ntmps121;go_wp2;go_ret;exact⟨by first|rfl|(congr 1;simp[BEq.beq]),HF.out⟩
theorem afC(g:Sg)(ga:Option Addr)(gc:Nat)(b:Nat)(cv hv v:Value)(P:List GV)(m:Nat)(t:T)(hin:0<=t.head->t.head.toNat<g.length)(a:Option Addr)(c:Nat)(w:World)(h:PrS b (.slice ga g.length gc) cv hv v P m w)(aM:Nat)(hn:aM<=w.heap.size)(hG:aaX aM w g ga gc):
 Calls Tryz.prog 122 #[.pointer (some ⟨b,0,none⟩),tm t.head a t.args.length c] w fun e w'=>e= .returned (.bool (aap g t.head))/\Below w.heap.size w w':=by
 have hF:Below w.heap.size w (w.alloc (aaa t.head a t.args.length c)):=(ag _ w).alloc (af _) _;have HF:=ae hF;obtain⟨_,_,c2,_,_,_,_⟩:=h.cells;have hbl:=h.lt;by_cases hh:0<=t.head
 ·obtain⟨bg,og,x,rfl,hbg,hs,hxw,hc0,hc1,hc2,hc3⟩:=hG.elem (i:=t.head.toNat) (hin hh);have HD:=ae (show aap g t.head=x.tr from by unfold aap;rw[hs];simp[hh]);have hk1:t.head<(g.length:Int):=by have:=hin hh;omega
  have hbw:bg<w.heap.size:=by omega
  clear hG hs hxw hc0 hc1 hc2 h hF;go_enter Tryz.func122,Tryz.ntmps122;go_wp2
  go_quiet (fail)
  go_wp2;go_ret;exact⟨by rw[HD.out];rfl,HF.out.trans ⟨rfl,rfl,rfl,af _,fun _ _=>rfl⟩⟩
 ·have hh':decide (0<=t.head)=false:=decide_eq_false hh;have HD:=ae (show aap g t.head=false from by unfold aap;rw[hh'];rfl);clear hG h hF;go_enter Tryz.func122,Tryz.ntmps122;go_wp2
  go_quiet (fail)
  go_wp2;go_ret;exact⟨by rw[HD.out];rfl,HF.out.trans ⟨rfl,rfl,rfl,af _,fun _ _=>rfl⟩⟩
theorem ahF(g:Sg)(ga:Option Addr)(gc:Nat)(b:Nat)(cv hv v:Value)(P:List GV)(m:Nat)(s u:T)(his:0<=s.head->s.head.toNat<g.length)(hiu:0<=u.head->u.head.toNat<g.length)(sa:Option Addr)(sc:Nat)(ua:Option Addr)(uc:Nat)(w:World)(h:PrS b (.slice ga g.length gc) cv hv v P m w)(aM:Nat)(hn:aM<=w.heap.size)(hG:aaX aM w g ga gc):
 Calls Tryz.prog 71 #[.pointer (some ⟨b,0,none⟩),tm s.head sa s.args.length sc,tm u.head ua u.args.length uc] w fun e w'=>e= .returned (.bool (ane g s u))/\Below w.heap.size w w':=by
 obtain⟨w2,hw2⟩:∃w2,(w.alloc (.cells #[.int .i64 s.head,.slice sa s.args.length sc] 60)).alloc (.cells #[.int .i64 u.head,.slice ua u.args.length uc] 60)=w2:=⟨_,rfl⟩;have hb2:Below w.heap.size w w2:=by rw[←hw2];exact((ag _ w).alloc (af _) _).alloc (by simp) _
 have KP:=ae (show ∀W,Below w2.heap.size w2 W->W.cell? ⟨w.heap.size,0,none⟩=some (.int .i64 s.head)/\W.cell? ⟨w.heap.size,1,none⟩=some (.slice sa s.args.length sc)/\W.cell? ⟨w.heap.size+1,0,none⟩=some (.int .i64 u.head)/\W.cell? ⟨w.heap.size+1,1,none⟩=some (.slice ua u.args.length uc) from fun W hW=>
  ⟨(hW.cell (p:=⟨w.heap.size,0,none⟩) (by rw[←hw2];simp;omega)).trans (by rw[←hw2];simp[go_sem]),(hW.cell (p:=⟨w.heap.size,1,none⟩) (by rw[←hw2];simp;omega)).trans (by rw[←hw2];simp[go_sem]),(hW.cell (p:=⟨w.heap.size+1,0,none⟩) (by rw[←hw2];simp)).trans (by rw[←hw2];simp[go_sem]),(hW.cell (p:=⟨w.heap.size+1,1,none⟩) (by rw[←hw2];simp)).trans (by rw[←hw2];simp[go_sem])⟩)
 have C1:=ae (fun(W:World)=>afB s sa sc W);have C2:=ae (fun(W:World)=>afB u ua uc W);have C3:=ae (fun(W:World) (hW:Below w2.heap.size w2 W)=>afC g ga gc b cv hv v P m s his sa sc W (h.later (hb2.trans (hW.mono hb2.size))) aM (by have:=hb2.size;have:=hW.size;omega) (hG.below ((hb2.trans (hW.mono hb2.size)).mono hn)));have C4:=ae (fun(W:World) (hW:Below w2.heap.size w2 W)=>afC g ga gc b cv hv v P m u hiu ua uc W (h.later (hb2.trans (hW.mono hb2.size))) aM (by have:=hb2.size;have:=hW.size;omega) (hG.below ((hb2.trans (hW.mono hb2.size)).mono hn)));have HB2:=ae hb2;have hD:Below w2.heap.size w2 w2.drew:=(ag _ _).drew;have HTB:=ae (show ane g s u=(!decide (s.head=0)&& !decide (u.head=0)&&(aap g s.head==aap g u.head)) from by unfold ane;simp);rw[HTB.out];obtain⟨a0,a1,b0,b1⟩:=KP.out w2 (ag _ _);clear h hG hb2;go_enter Tryz.func71,Tryz.ntmps71
 have KS:=ae (show ∀W,Below w2.heap.size w2 W->(W.cell? ⟨w.heap.size,0,none⟩=some (.int .i64 s.head)/\W.cell? ⟨w.heap.size,1,none⟩=some (.slice sa s.args.length sc))/\(W.cell? ⟨w.heap.size+1,0,none⟩=some (.int .i64 u.head)/\W.cell? ⟨w.heap.size+1,1,none⟩=some (.slice ua u.args.length uc))/\Below w2.heap.size w2 W from fun W hW=>by
  obtain⟨k0,k1,k2,k3⟩:=KP.out W hW;exact⟨⟨k0,k1⟩,⟨k2,k3⟩,hW⟩)
 go_upto_region 1 with fail
 cases q1:decide (s.head=0) with
 |true=>
  first|(go_region_law (go_simp;go_at_call 121;refine(C1.out _).mono ?_;rintro e w3 ⟨rfl,hb3⟩;rw[q1];have hB3:Below w2.heap.size w2 w3:=hD.trans hb3))|fail "region"
  all_goals
   have HBN:=ae hB3;go_wp2;go_ret;exact⟨by first|rfl|simp[go_sem,of_decide_eq_true q1],HB2.out.trans (HBN.out.mono HB2.out.size)⟩
 |false=>
  cases q2:decide (u.head=0) with
  |true=>
   first|(go_region_law (first
    |(go_simp;go_at_call 121;refine(C1.out w2.drew).mono ?_;rintro e w3 ⟨rfl,hb3⟩;rw[q1];have hB3:Below w2.heap.size w2 w3:=hD.trans hb3;obtain⟨a0,a1,b0,b1⟩:=KP.out w3 hB3)
    |(go_simp;go_at_call 121;refine(C2.out _).mono ?_;rintro e w4 ⟨rfl,hb4⟩;rw[q2];have hB4:Below w2.heap.size w2 w4:=hB3.trans (hb4.mono hB3.size))))|fail "region"
   all_goals
    have HBN:=ae hB4;go_wp2;go_ret;exact⟨by first|rfl|simp[go_sem,of_decide_eq_true q2],HB2.out.trans (HBN.out.mono HB2.out.size)⟩
  |false=>
   have hs0:¬s.head=0:=of_decide_eq_false q1;have hu0:¬u.head=0:=of_decide_eq_false q2;clear b0 b1 a0 a1 hD;refine wp_region_noPanic ?_
   go_region_held3 (fun w'=>(w'.cell? ⟨w.heap.size,0,none⟩=some (.int .i64 s.head)/\w'.cell? ⟨w.heap.size,1,none⟩=some (.slice sa s.args.length sc))/\(w'.cell? ⟨w.heap.size+1,0,none⟩=some (.int .i64 u.head)/\w'.cell? ⟨w.heap.size+1,1,none⟩=some (.slice ua u.args.length uc))/\Below w2.heap.size w2 w')
    (first
     |with_reducible exact KS.out _ hB6
     |with_reducible exact KS.out _ hB5
     |with_reducible exact KS.out _ hB4
     |with_reducible exact KS.out _ hB3
     |with_reducible exact KS.out _ (ag _ _)
     |with_reducible exact KS.out _ (ag _ _).drew)
    (first
     |(go_at_call 121;refine(C2.out _).mono ?_;rintro e w4 ⟨rfl,hb4⟩;rw[q2];have hB4:Below w2.heap.size w2 w4:=hB3.trans (hb4.mono hB3.size))
     |(go_at_call 121;refine(C1.out _).mono ?_;rintro e w3 ⟨rfl,hb3⟩;rw[q1];have hB3:Below w2.heap.size w2 w3:=(‹_/\_/\Below w2.heap.size w2 _›.2.2).trans (hb3.mono (‹_/\_/\Below w2.heap.size w2 _›.2.2).size))
     |(go_at_call 122;refine(C4.out _ hB5).mono ?_;rintro e w6 ⟨rfl,hb6⟩;have hB6:Below w2.heap.size w2 w6:=hB5.trans (hb6.mono hB5.size))
     |(go_at_call 122;refine(C3.out _ hB4).mono ?_;rintro e w5 ⟨rfl,hb5⟩;have hB5:Below w2.heap.size w2 w5:=hB4.trans (hb5.mono hB4.size)))
   all_goals
    refine NoPanic.normal ?_;have HBN:=ae hB6;go_wp2;go_ret;exact⟨by first|rfl|simp[go_sem,hs0,hu0],HB2.out.trans (HBN.out.mono HB2.out.size)⟩
end Go.Proofs.YtabfapijgfjflaaGreat
