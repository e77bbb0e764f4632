import Derived.Test.YtabfapijgfjflaaGreatMQBz29
import Derived.Deep.RegionLaw
import Derived.Deep.CutRange
import Derived.Deep.AppendLies
import Derived.Deep.RegionHeld3
import Derived.RangeFuncNested
import Derived.RangeFuncLeaves
import Derived.Test.YtabfapijgfjflaaGreatMAl
set_option linter.unusedVariables false
set_option linter.unusedSimpArgs false
set_option maxRecDepth 100000
set_option maxHeartbeats 8000000
namespace Go.Proofs.YtabfapijgfjflaaGreat
open Go.RowKit
def atr(g:Sg)(C:List Lt3)(s:Sb)(i:Nat)(a b:T)(w:World)(e:Ending)(w':World):Prop:=e= .returned (.tuple #[.bool (mfR g C s i a b),.int .i64 (mfE g C s)])/\Below w.heap.size w w'
theorem ajJ(g:Sg)(C:List LV)(hCl:C.length<=1000)(hsz:∀x∈C,x.sz)(ga:Option Addr)(gc:Nat)(a:Option Addr)(c:Nat)(b:Nat)(hv v:Value)(P:List GV)(m:Nat)(i:Nat)(x:LV)(hx:C[i]? =some x)(q:Nat)(s:Sb)(hss:∀x∈s,x.2.size<=1000000000000)(w:World)(h:PrS b (.slice ga g.length gc) (.slice a C.length c) hv v P m w)(hG:aaX w.heap.size w g ga gc)(hC:aaV w.heap.size w C a c)(sa:Option Addr)(sc:Nat)(hS:ahj w.heap.size w s sa sc)(hY:aa1 w.heap.size w (sdY x q)):
 Calls Tryz.prog 123 #[.pointer (some ⟨b,0,none⟩),sdV i (sdY x q),.slice sa s.length sc] w (atr g (t3s C) s i (aae x.t3 q).1 (aae x.t3 q).2 w):=by
 rw[←ajI,←auP];have hyz:(sdY x q).sz:=aqD (hsz x (ak hx)) q
 have HYE:=ae (show acE s (t3s C)=0->aaN g (acL s (t3s C))=0->aeN s (sdY x q).l=0/\aeN s (sdY x q).r=0/\aaH g (abe s (sdY x q).l)=0/\aaH g (abe s (sdY x q).r)=0 from fun ha hd=>by
  obtain⟨a1,a2,a3⟩:=agO ha;have hm:x.t3∈t3s C:=ak (adY hx);obtain⟨p1,p2⟩:=alW (a2 _ hm);obtain⟨q1,q2⟩:=abq ((aba hd).2.2 (ap3 s x.t3) (by rw[a3];exact List.mem_map.2 ⟨_,hm,rfl⟩));unfold sdY;split
  ·exact⟨p1,p2,q1,q2⟩
  ·exact⟨p2,p1,q2,q1⟩)
 have hi:=(ah.1 hx).1;generalize sdY x q=y at hY hyz HYE ⊢
 have D0:=ae (show aai (fun X=>PrS b (.slice ga g.length gc) (.slice a C.length c) hv v P m X/\aaX X.heap.size X g ga gc/\aaV X.heap.size X C a c/\ahj X.heap.size X s sa sc/\aa1 X.heap.size X y/\Below w.heap.size w X) w from fun X hX=>
  ⟨h.later hX,(hG.below hX).mono hX.size,(hC.below hX).mono hX.size,(hS.below hX).mono hX.size,(hY.below hX).mono hX.size,hX⟩)
 clear h hG hC hS hY;have D1:=ae (D0.out.pushC (ag _ _) #[.int .i64 (i:Int),.int .i64 y.l.head,.slice y.pa y.l.args.length y.ca,.int .i64 y.r.head,.slice y.pb y.r.args.length y.cb] 113);obtain⟨_,_,c2,c3,_,_,_⟩:=D1.out.now.2.1.cells;clear D0 c2;go_enter Tryz.func123,Tryz.ntmps123
 go_wp2_with fail
 clear c3;generalize w.alloc (.cells #[.int .i64 (i:Int),.int .i64 y.l.head,.slice y.pa y.l.args.length y.ca,.int .i64 y.r.head,.slice y.pb y.r.args.length y.cb] 113)=w1 at D1 ⊢;generalize hbx:w.heap.size=bx at D1 ⊢;have HBX:=ae hbx;clear hbx;refine(ae8 s hss C hsz w1.heap.size sa sc a c w1 (af _) D1.out.now.2.2.2.2.1 D1.out.now.2.2.2.1).mono ?_;rintro e w2 ⟨Q,p2,qc,hQ,rfl,hQc,hb⟩;have D2:=ae ((D1.out.mv hb).and (ac6 hQc));have HQ:=ae hQ;clear hb D1 hQc hQ;by_cases ha:acE s (t3s C)=0
 case neg=>
  have HP:=ae (show mfE g (t3s C) s=acE s (t3s C)/\mfR g (t3s C) s i y.l y.r=false from by
   have h1:mfE g (t3s C) s=acE s (t3s C):=by unfold mfE;rw[if_pos ha]
   exact⟨h1,by unfold mfR;rw[h1,if_neg ha]⟩)
  obtain⟨k,hk⟩:∃k,acE s (t3s C)=k:=⟨_,rfl⟩;rw[hk] at HP ha ⊢;have h2:(k != 0)=true:=by simpa using ha
  have HB:=ae D2.out.now.2.2.2.2.2.2.2;clear D2 hk ha;go_wp2
  go_ret2
  exact⟨by first|(rw[HP.out.1,HP.out.2];rfl)|rw[HP.out.1,HP.out.2],by rw[HBX.out];exact HB.out⟩
 rw[ha];have hqs:∀z∈Q,z.sz:=atj HQ.out;have HA:=ae ha;clear ha;obtain⟨_,_,c2,c3,_,_,_⟩:=D2.out.now.2.2.1.cells;clear c3
 go_wp2_with fail
 clear c2;refine(acN g Q hqs w2.heap.size ga gc p2 qc w2 (af _) D2.out.now.2.2.2.1 D2.out.now.1).mono ?_;rw[HQ.out];rintro e w3 ⟨rfl,hb⟩;have D3:=ae (D2.out.mv hb);clear hb D2;by_cases hc:aaN g (acL s (t3s C))=0
 case neg=>
  have HP:=ae (show mfE g (t3s C) s=aaN g (acL s (t3s C))/\mfR g (t3s C) s i y.l y.r=false from by
   have h1:mfE g (t3s C) s=aaN g (acL s (t3s C)):=by unfold mfE;rw[if_neg (fun e=>e HA.out)]
   exact⟨h1,by unfold mfR;rw[h1,if_neg hc]⟩)
  obtain⟨k,hk⟩:∃k,aaN g (acL s (t3s C))=k:=⟨_,rfl⟩;rw[hk] at HP hc ⊢;have h2:(k != 0)=true:=by simpa using hc
  have HB:=ae D3.out.now.2.2.2.2.2.2.2;clear D3 hk hc;go_wp2
  go_ret2
  exact⟨by first|(rw[HP.out.1,HP.out.2];rfl)|rw[HP.out.1,HP.out.2],by rw[HBX.out];exact HB.out⟩
 rw[hc];have HC:=ae hc;obtain⟨e1,e2,e3,e4⟩:=HYE.out HA.out hc
 have HME:=ae (show mfE g (t3s C) s=0/\mfR g (t3s C) s i y.l y.r=((decide (abp g (abe s y.l) (abe s y.r)≠ -1)&&decide (abp g (abe s y.l) (abe s y.r)≠0))&&ali g (acL s (t3s C)) i false) from by
  have h1:mfE g (t3s C) s=0:=by unfold mfE;rw[if_neg (fun e=>e HA.out)];exact hc
  exact⟨h1,by unfold mfR;rw[if_pos h1,auM e1 e2 e3 e4]⟩)
 have HER:=ae (And.intro e3 e4)
 have HIX:=ae (show aid (acL s (t3s C)) (i:Int)=true from by
  unfold aid;rw[(agO HA.out).2.2,List.length_map,aeh];simp;exact hi)
 have HS1:=ae (show(abe s y.l).size<=400/\(abe s y.r).size<=400 from by
  rw[(acs e1).1,(acs e2).1];exact⟨(aam (acs e1).2.2).1,(aam (acs e2).2.2).1⟩)
 clear hc e1 e2 e3 e4 HYE;obtain⟨b1,b2⟩:=D3.out.now.2.1;have l1:=b2 1 _ rfl;have l2:=b2 2 _ rfl;clear b1 b2
 go_wp2_with fail
 clear l1 l2;refine(adI s hss y.l hyz.1 w3.heap.size sa sc y.pa y.ca w3 (af _) D3.out.now.2.2.2.2.2.1 D3.out.now.2.2.2.2.2.2.1.lw D3.out.now.2.2.2.2.2.2.1.la).mono ?_;rintro e w4 ⟨a4,c4,rfl,hw4,hA4,hb⟩;have D4:=ae ((D3.out.mv hb).and (aeP (aao.1 (hA4.keep (fun _ _=>rfl) (fun q hq=>hq.2)))));have D5:=ae (D4.out.pushC (ag _ _) #[.int .i64 (abe s y.l).head,.slice a4 (abe s y.l).args.length c4] 60);have HW4:=ae hw4;clear hb hA4 hw4 D3;have l3:=(D5.out.now.2.2.2.1).2 3 _ rfl;have l4:=(D5.out.now.2.2.2.1).2 4 _ rfl;clear D4
 go_wp2_with fail
 clear l3 l4;generalize w4.alloc (.cells #[.int .i64 (abe s y.l).head,.slice a4 (abe s y.l).args.length c4] 60)=w5 at D5 ⊢;generalize w4.heap.size=by_ at D5 ⊢;refine(adI s hss y.r hyz.2 w5.heap.size sa sc y.pb y.cb w5 (af _) D5.out.now.2.2.2.2.2.2.2.1 D5.out.now.2.2.2.2.2.2.2.2.1.rw D5.out.now.2.2.2.2.2.2.2.2.1.ra).mono ?_;rintro e w6 ⟨a6,c6,rfl,hw6,hA6,hb⟩;have D6:=ae ((D5.out.mv hb).and (aeP (aao.1 (hA6.keep (fun _ _=>rfl) (fun q hq=>hq.2)))));have D7:=ae (D6.out.pushC (ag _ _) #[.int .i64 (abe s y.r).head,.slice a6 (abe s y.r).args.length c6] 60);have HW6:=ae hw6;clear hb hA6 hw6 D5 D6
 go_upto_region 9 with fail
 generalize w6.alloc (.cells #[.int .i64 (abe s y.r).head,.slice a6 (abe s y.r).args.length c6] 60)=w7 at D7 ⊢;generalize w6.heap.size=bz at D7 ⊢;obtain⟨⟨_,q7⟩,hA6,⟨_,q5⟩,hA4,hQc,⟨_,qx⟩,hpr,hsg,_⟩:=D7.out.now;have m0:=q7 0 _ rfl;have m1:=q7 1 _ rfl;have n0:=q5 0 _ rfl;have n1:=q5 1 _ rfl;obtain⟨_,_,c2,_,_,_,_⟩:=hpr.cells;have hdr:Below w7.heap.size w7 w7.drew:=(ag _ _).drew;have CK:=akB g (abe s y.l) (abe s y.r) (by have:=HS1.out.1;omega) (by have:=HS1.out.2;omega) w7.heap.size ga gc a4 c4 a6 c6 w7.drew (af _) (hsg.below hdr) HW4.out HW6.out (hA4.below hdr) (hA6.below hdr)
 have hcv:atV g (abe s y.l) (abe s y.r)= .tuple #[.int .i64 (abp g (abe s y.l) (abe s y.r)),.int .i64 0]:=by
  unfold atV;rw[if_pos ?_];unfold abM;rw[if_neg (fun e=>e HER.out.1)];unfold abM;rw[if_neg (fun e=>e HER.out.2)];rfl
 rw[hcv] at CK;have CKK:=ae CK;obtain⟨zz,hzz⟩:∃zz,abp g (abe s y.l) (abe s y.r)=zz:=⟨_,rfl⟩;rw[hzz] at CKK HME;clear q7 q5 qx hA6 hA4 hQc hpr hsg hdr CK hcv hzz HW4 HW6 HS1
 go_region_law (first|(go_simp;go_at_call 167;refine CKK.out.mono ?_;rintro e w8 ⟨rfl,hb8⟩))
 all_goals
  have D8:=ae (D7.out.mv ((ag _ _).drew.trans hb8));clear hb8 D7 CKK m0 m1 n0 n1 c2;by_cases h1:zz= -1
  ·have HB:=ae D8.out.now.2.2.2.2.2.2.2.2.2.2.2;subst h1;go_wp2
   go_ret2
   exact⟨by rw[HME.out.1,HME.out.2];rfl,by rw[HBX.out];exact HB.out⟩
  ·have h1':(zz== -1)=false:=by simpa using h1
   by_cases h2:zz=0
   ·have HB:=ae D8.out.now.2.2.2.2.2.2.2.2.2.2.2;subst h2;go_wp2
    go_ret2
    exact⟨by rw[HME.out.1,HME.out.2];rfl,by rw[HBX.out];exact HB.out⟩
   ·have h2':(zz==0)=false:=by simpa using h2
    obtain⟨_,_,_,_,hQc,⟨_,qx⟩,hpr,hsg,_⟩:=D8.out.now;have m0:=qx 0 _ rfl;obtain⟨_,_,c2,_,_,_,_⟩:=hpr.cells;have hdr:Below w8.heap.size w8 w8.drew:=(ag _ _).drew;have CX:=akO g Q hqs (i:Int) false w8.heap.size ga gc p2 qc w8.drew (af _) (hsg.below hdr) (hQc.below hdr);unfold ath at CX;rw[HQ.out,(aub (st:=false) HC.out HIX.out).1,(aub (st:=false) HC.out HIX.out).2,Int.toNat_natCast] at CX;have CXX:=ae CX;have HME2:=ae (show mfR g (t3s C) s i y.l y.r=ali g (acL s (t3s C)) i false from by rw[HME.out.2];simp[h1,h2]);clear qx hQc hpr hsg hdr CX h1 h2
    go_wp2_with fail
    go_region_law (first|(go_simp;go_at_call 168;refine CXX.out.mono ?_;rintro e w9 ⟨rfl,hb9⟩))
    all_goals
     have HB:=ae (D8.out.mv ((ag _ _).drew.trans hb9)).now.2.2.2.2.2.2.2.2.2.2.2;clear hb9 D8 CXX;go_wp2
     go_ret2
     exact⟨by first|(rw[HME.out.1,HME2.out];rfl)|(rw[HME.out.1,HME2.out];simp[go_sem]),by rw[HBX.out];exact HB.out⟩
theorem ak2{b aN g cap:Nat}{u U w8:World}{vo:Value}{O:List LV}{z:LV}(hO:OL (· <b) aN vo O u)(hbn:b<=aN)(hn:aN<=u.heap.size)(hU:Below u.heap.size u U)(hz:aa1 b u z)
 (hown:w8.ownsRow aN 62 5 (.slice (some ⟨g,0,none⟩) (O.length+1) cap) (O.length+1) (aaf O++z.cells)) (hgrow:U.grownBy w8 vo.ownBlock):aaV w8.heap.size w8 (O++[z]) (some ⟨g,0,none⟩) cap/\Below aN u w8:=by
 have hB:Below aN u w8:=(hU.mono hn).grown hgrow (aE hn hU.size) (fun q hq=>(hO.block hq).1)
 have hO8:OL (· <b) aN (.slice (some ⟨g,0,none⟩) (O.length+1) cap) (O++[z]) w8:=by
  refine⟨?_,fun y hy=> ?_⟩
  ·have e1:(O++[z]).length=O.length+1:=by simp
   have e2:aaf (O++[z])=aaf O++z.cells:=by rw[ac8];simp[aaf]
   rw[e1,e2];exact hown
  ·rcases aG.1 hy with hy|hy
   ·exact(hO.2 y hy).keep (fun q hq=>hB.block q (by omega)) (fun _ h=>h)
   ·obtain rfl:=List.mem_singleton.1 hy;exact(ac7.2 hz).keep (fun q hq=>hB.block q (by omega)) (fun _ h=>h)
 obtain⟨a,c,e,hI⟩:=hO8.args (fun q hq=>by have:=hB.size;omega);injection e with e1 e2 e3
 subst e1 e3;exact⟨hI,hB⟩
theorem ak4(g:Sg)(C:List LV)(hCl:C.length<=30)(hsz:∀x∈C,x.sz)(hok:aaN g (t3s C)=0)(how:Value)(ga:Option Addr)(gc:Nat)(a:Option Addr)(c:Nat)(b:Nat)(v:Value)(P:List GV)(m:Nat)(hPl:P.length<=10000)(hm:m<=10000)(i k p q:Nat)(x z:LV)(hx:C[i]? =some x)(hz:C[k]? =some z)
 (ht:ane g (aae x.t3 p).1 (aae z.t3 q).1=true) (w:World) (h:PrS b (.slice ga g.length gc) (.slice a C.length c) how v P m w) (hG:aaX b w g ga gc) (hC:aaV b w C a c) (hxl:aa1 b w x) (hzl:aa1 b w z):
 Calls Tryz.prog 72 #[.pointer (some ⟨b,0,none⟩),sdV i (sdY x p),sdV k (sdY z q)] w (ag2 b (.slice ga g.length gc) (.slice a C.length c) how v (gps P++(faS g (t3s C) i k p q).1.toList) (m+(faS g (t3s C) i k p q).2) w):=by
 have hi:=(ah.1 hx).1;have hk:=(ah.1 hz).1;have hbl:=h.lt;have hYL:=atq hxl p;have hZL:=atq hzl q;have hys:=aqD (hsz x (ak hx)) p;have hzs:=aqD (hsz z (ak hz)) q;have HTG:=ae ht;have HX:=ae (And.intro (adY hx) (adY hz));have HXZ:=ae (And.intro hx hz);have hyl:=ajI x p;have hyr:=auP x p;have hzl2:=ajI z q;have hzr:=auP z q;have HYS:=ae (And.intro (And.intro hyl hyr) (And.intro hzl2 hzr));obtain⟨y1,hy1⟩:∃y,sdY x p=y:=⟨_,rfl⟩;obtain⟨y2,hy2⟩:∃y,sdY z q=y:=⟨_,rfl⟩;have HY:=ae (And.intro hy1 hy2);rw[hy1] at hYL hys hyl hyr ⊢;rw[hy2] at hZL hzs hzl2 hzr ⊢;obtain⟨w1,hw1⟩:∃w1,(w.alloc (.cells #[.int .i64 (i:Int),.int .i64 y1.l.head,.slice y1.pa y1.l.args.length y1.ca,.int .i64 y1.r.head,.slice y1.pb y1.r.args.length y1.cb] 113)).alloc (.cells #[.int .i64 (k:Int),.int .i64 y2.l.head,.slice y2.pa y2.l.args.length y2.ca,.int .i64 y2.r.head,.slice y2.pb y2.r.args.length y2.cb] 113)=w1:=⟨_,rfl⟩;have hb1:Below w.heap.size w w1:=by rw[←hw1];exact((ag _ w).alloc (af _) _).alloc (by simp) _
 have hz1:w1.heap.size=w.heap.size+2:=by rw[←hw1];simp
 have hc1:∀j,w1.cell? ⟨w.heap.size,j,none⟩=(#[.int .i64 (i:Int),.int .i64 y1.l.head,.slice y1.pa y1.l.args.length y1.ca,.int .i64 y1.r.head,.slice y1.pb y1.r.args.length y1.cb]:Array Value)[j]? :=fun j=>by rw[←hw1];simp[go_sem]
 have hc2:∀j,w1.cell? ⟨w.heap.size+1,j,none⟩=(#[.int .i64 (k:Int),.int .i64 y2.l.head,.slice y2.pa y2.l.args.length y2.ca,.int .i64 y2.r.head,.slice y2.pb y2.r.args.length y2.cb]:Array Value)[j]? :=fun j=>by rw[←hw1];simp[go_sem]
 have KP:=ae (show ∀W:World,Below w1.heap.size w1 W->∀j,W.cell? ⟨w.heap.size,j,none⟩=(#[.int .i64 (i:Int),.int .i64 y1.l.head,.slice y1.pa y1.l.args.length y1.ca,.int .i64 y1.r.head,.slice y1.pb y1.r.args.length y1.cb]:Array Value)[j]? /\W.cell? ⟨w.heap.size+1,j,none⟩=(#[.int .i64 (k:Int),.int .i64 y2.l.head,.slice y2.pa y2.l.args.length y2.ca,.int .i64 y2.r.head,.slice y2.pb y2.r.args.length y2.cb]:Array Value)[j]? from fun W hW j=>
  ⟨(hW.cell (p:=⟨w.heap.size,j,none⟩) (by simp;omega)).trans (hc1 j),(hW.cell (p:=⟨w.heap.size+1,j,none⟩) (by simp;omega)).trans (hc2 j)⟩)
 have HB1:=ae hb1;have HZ1:=ae hz1;have H:=ae h;have HG:=ae hG;have HC:=ae hC;have HLV:=ae (And.intro hYL hZL);have HOK:=ae hok;have HSZ:=ae hsz;have HLS:=ae (And.intro hys hzs);have hb1b:Below b w w1:=hb1.mono (by omega);have CM:=ae (ano y1.l y2.l hys.1 hzs.1 b y1.pa y1.ca y2.pa y2.ca w1 (by omega) hYL.lw hZL.lw (hYL.la.below hb1b) (hZL.la.below hb1b));obtain⟨p1,q1⟩:=KP.out w1 (ag _ _) 1;obtain⟨p2,q2⟩:=KP.out w1 (ag _ _) 2;have p1':w1.cell? ⟨w.heap.size,1,none⟩=some (.int .i64 y1.l.head):=p1;have p2':w1.cell? ⟨w.heap.size,2,none⟩=some (.slice y1.pa y1.l.args.length y1.ca):=p2;have q1':w1.cell? ⟨w.heap.size+1,1,none⟩=some (.int .i64 y2.l.head):=q1;have q2':w1.cell? ⟨w.heap.size+1,2,none⟩=some (.slice y2.pa y2.l.args.length y2.ca):=q2;have hB2b:w.heap.size+1<w1.heap.size:=by omega
 clear h hG hC hYL hZL hok hsz hys hzs hxl hzl hx hz ht hb1 hz1 hc1 hc2 hb1b p1 p2 q1 q2 hyl hyr hzl2 hzr hy1 hy2;go_enter Tryz.func72,Tryz.ntmps72
 go_wp2_with fail
 refine CM.out.mono ?_;rintro e w2 ⟨w0,hb0,hmp⟩;obtain⟨s,ub,uk,sa,sc,rfl,hs,hb2,hR0⟩:=amV hmp
 have hR:adk (aae x.t3 p).1 (aae z.t3 q).1 s ub uk:=by
  rw[←HYS.out.1.1,←HYS.out.2.1,HY.out.1,HY.out.2];exact hR0
 have hB2:Below w1.heap.size w1 w2:=hb0.trans (hb2.mono hb0.size);have hBw2:Below w.heap.size w w2:=HB1.out.trans (hB2.mono HB1.out.size);have h2:=H.out.later hBw2;have hw0:=hb0.size
 have HS:Hid (abH (fun q=>¬PF b v q/\isC w2 q) w2 s sa sc):=ae (hs.isC.keep (fun _ _=>rfl) (fun r hr=>⟨fun e=>by
  have hq1:=hr.1.1;have hz1:=HZ1.out
  rcases e with e|e
  ·have:=H.out.lt;omega
  ·have:=(H.out.ob e).2.lt;omega,hr.2⟩))
 have HB2:=ae (And.intro hB2 hBw2);have H2:=ae h2;have HR:=ae hR;have hz2:=hBw2.size;clear hB2 hBw2 h2 hs hw0 hb0 hb2 hmp hR0 CM p1' p2' q1' q2'
 rcases aiB hR with rfl|⟨rfl,rfl,_⟩
 ·
  clear hR;by_cases hk0:uk=0
  ·subst hk0;go_wp2
   go_end0
   rw[awj HX.out.1 HX.out.2 HTG.out HR.out];exact⟨rfl,v,P,by simp,H2.out,FrP.of HB2.out.2⟩
  ·have hk2:(uk != 0)=true:=by simpa using hk0
   have HK:=ae hk0;have CL:=ae (afT b _ _ _ v P m (by omega) w2 H2.out);clear hk0
   go_wp2_with fail
   refine CL.out.mono ?_;rintro e w3 ⟨rfl,v',G,hGp,hP3,hF3⟩;have HP3:=ae (And.intro hGp (And.intro hP3 hF3));clear hGp hP3 hF3 CL;go_wp2
   go_end0
   rw[asA HX.out.1 HX.out.2 HTG.out HR.out HK.out];exact⟨rfl,v',G,by rw[HP3.out.1];simp,HP3.out.2.1,(FrP.of HB2.out.2).trans HP3.out.2.2⟩
 ·
  have hBb:Below b w w2:=HB2.out.2.mono (by omega);have hss:=afc hR;have HSS:=ae hss
  have CY:=ae (by
   have h:=ajJ g C (by omega) HSZ.out ga gc a c b how v P m i x HXZ.out.1 p s hss w2 H2.out ((HG.out.below hBb).mono (by omega)) ((HC.out.below hBb).mono (by omega)) sa sc (HS.out.bs fun r hr=>hr.2.lt) (by rw[HY.out.1];exact(HLV.out.1.below hBb).mono (by omega));rw[HY.out.1] at h;exact h)
  obtain⟨eE,heE⟩:∃k,mfE g (t3s C) s=k:=⟨_,rfl⟩;obtain⟨rR,hrR⟩:∃r,mfR g (t3s C) s i (aae x.t3 p).1 (aae x.t3 p).2=r:=⟨_,rfl⟩;have HE:=ae (And.intro heE hrR);have r0:w2.cell? ⟨w.heap.size,0,none⟩=some (.int .i64 (i:Int)):=(KP.out w2 HB2.out.1 0).1;have r1:w2.cell? ⟨w.heap.size,1,none⟩=some (.int .i64 y1.l.head):=(KP.out w2 HB2.out.1 1).1;have r2:w2.cell? ⟨w.heap.size,2,none⟩=some (.slice y1.pa y1.l.args.length y1.ca):=(KP.out w2 HB2.out.1 2).1;have r3:w2.cell? ⟨w.heap.size,3,none⟩=some (.int .i64 y1.r.head):=(KP.out w2 HB2.out.1 3).1;have r4:w2.cell? ⟨w.heap.size,4,none⟩=some (.slice y1.pb y1.r.args.length y1.cb):=(KP.out w2 HB2.out.1 4).1;clear hR hss hBb
  go_wp2_with fail
  clear r0 r1 r2 r3 r4;refine CY.out.mono ?_;unfold atr;rw[heE,hrR];rintro e w3 ⟨rfl,hb3⟩;have hB3:Below w1.heap.size w1 w3:=HB2.out.1.trans (hb3.mono HB2.out.1.size);have hB3':Below w.heap.size w w3:=HB2.out.2.trans (hb3.mono hz2);have HB3:=ae (And.intro hB3 hB3');have H3:=ae (H2.out.later hb3);have HS3:=ae (HS.out.keep (ok':=fun r=>¬PF b v r/\isC w3 r) (w':=w3) (fun r hr=>hb3.block r hr.2.lt) (fun r hr=>⟨hr.1,hr.2.keep (hb3.block r hr.2.lt)⟩));have hz3:=hB3'.size;clear hb3 hB3 hB3' CY heE hrR;by_cases hk0:eE=0
  ·subst hk0;cases rR with
   |false=>
    go_wp2
    go_end0
    rw[auO HX.out.1 HX.out.2 HTG.out HR.out HE.out.1 HE.out.2];exact⟨rfl,v,P,by simp,H3.out,FrP.of HB3.out.2⟩
   |true=>
    obtain⟨k1,k2,k3⟩:=asB HOK.out HX.out.1 HX.out.2 HTG.out HR.out HE.out.1 HE.out.2
    have hlit:t3s (C.eraseIdx i++[(⟨true,y1.r,y2.r,y1.pb,y1.cb,y2.pb,y2.cb⟩:LV)])=(t3s C).eraseIdx i++[⟨true,(aae x.t3 p).2,(aae z.t3 q).2⟩]:=by
     rw[←adw,←HYS.out.1.2,←HYS.out.2.2,HY.out.1,HY.out.2];simp[t3s,LV.t3]
    rw[←hlit] at k1 k2 k3;obtain⟨E,hE⟩:∃E,C.eraseIdx i=E:=⟨_,rfl⟩;rw[hE] at k1 k2 k3;have HSE:=ae (show ∀y∈E,y.sz from fun y hy=>by rw[←hE] at hy;exact HSZ.out y (List.mem_of_mem_eraseIdx hy));have hel:E.length<=30:=by rw[←hE,List.length_eraseIdx,if_pos hi];omega
    obtain⟨w4,hw4⟩:∃w4,w3.alloc (.cells #[.bool true,.int .i64 y1.r.head,.slice y1.pb y1.r.args.length y1.cb,.int .i64 y2.r.head,.slice y2.pb y2.r.args.length y2.cb] 62)=w4:=⟨_,rfl⟩;have hb4:Below w3.heap.size w3 w4:=by rw[←hw4];exact(ag _ _).alloc (af _) _
    have hz4:w4.heap.size=w3.heap.size+1:=by rw[←hw4];simp
    have hB4:Below w1.heap.size w1 w4:=HB3.out.1.trans (hb4.mono HB3.out.1.size);have hB4':Below w.heap.size w w4:=HB3.out.2.trans (hb4.mono hz3);have h4:=H3.out.later hb4;have hlc:∀j,w4.cell? ⟨w3.heap.size,j,none⟩=(#[.bool true,.int .i64 y1.r.head,.slice y1.pb y1.r.args.length y1.cb,.int .i64 y2.r.head,.slice y2.pb y2.r.args.length y2.cb]:Array Value)[j]? :=fun j=>by rw[←hw4];simp[go_sem]
    have hbl4:=h4.lt;have hz1:=HZ1.out;have hz34:=HB3.out.1.size
    have KQ:=ae (show ∀W:World,Below w4.heap.size w4 W->(W.cell? ⟨b,3,none⟩=some (.slice a C.length c)/\W.cell? ⟨w.heap.size,0,none⟩=some (.int .i64 (i:Int))/\W.cell? ⟨w.heap.size+1,0,none⟩=some (.int .i64 (k:Int)))/\W.cell? ⟨w3.heap.size,0,none⟩=some (.bool true)/\W.cell? ⟨w3.heap.size,1,none⟩=some (.int .i64 y1.r.head)/\W.cell? ⟨w3.heap.size,2,none⟩=some (.slice y1.pb y1.r.args.length y1.cb)/\W.cell? ⟨w3.heap.size,3,none⟩=some (.int .i64 y2.r.head)/\W.cell? ⟨w3.heap.size,4,none⟩=some (.slice y2.pb y2.r.args.length y2.cb) from fun W hW=>by
     have hk:=fun j=>KP.out W (hB4.trans (hW.mono (by omega))) j;have hl:=fun j=>(hW.cell (p:=⟨w3.heap.size,j,none⟩) (by simp;omega)).trans (hlc j);exact⟨⟨((h4.later hW).cells).2.2.2.1,(hk 0).1,(hk 0).2⟩,hl 0,hl 1,hl 2,hl 3,hl 4⟩)
    have hbw:=H.out.lt
    have KF:=ae (fun(W W':World) (v':Value) (G':List GV) (m':Nat) (hW:Below w4.heap.size w4 W) (hP:PrS b (.slice ga g.length gc) (.slice a C.length c) how v' G' m' W') (hF:FrP b v v' W W')=>show(W'.cell? ⟨b,3,none⟩=some (.slice a C.length c)/\W'.cell? ⟨w.heap.size,0,none⟩=some (.int .i64 (i:Int))/\W'.cell? ⟨w.heap.size+1,0,none⟩=some (.int .i64 (k:Int)))/\W'.cell? ⟨w3.heap.size,0,none⟩=some (.bool true)/\W'.cell? ⟨w3.heap.size,1,none⟩=some (.int .i64 y1.r.head)/\W'.cell? ⟨w3.heap.size,2,none⟩=some (.slice y1.pb y1.r.args.length y1.cb)/\W'.cell? ⟨w3.heap.size,3,none⟩=some (.int .i64 y2.r.head)/\W'.cell? ⟨w3.heap.size,4,none⟩=some (.slice y2.pb y2.r.args.length y2.cb) from by
     have hs:=hW.size
     have blk:∀q,w.heap.size<=q->q<w4.heap.size->W'.heap[q]? =W.heap[q]? :=fun q h1 h2=>hF.block q (by omega) (fun e=>by
      rcases e with e|e
      ·omega
      ·have:=(H.out.ob e).2.lt;omega)
     have bc:∀q j,w.heap.size<=q->q<w4.heap.size->W'.cell? ⟨q,j,none⟩=W.cell? ⟨q,j,none⟩:=fun q j h1 h2=>aq (a:=⟨q,j,none⟩) (blk q h1 h2);obtain⟨⟨_,s0,u0⟩,e0,e1,e2,e3,e4⟩:=KQ.out W hW;exact⟨⟨hP.cells.2.2.2.1,(bc _ _ (by omega) (by omega)).trans s0,(bc _ _ (by omega) (by omega)).trans u0⟩,(bc _ _ (by omega) (by omega)).trans e0,(bc _ _ (by omega) (by omega)).trans e1,(bc _ _ (by omega) (by omega)).trans e2,(bc _ _ (by omega) (by omega)).trans e3,(bc _ _ (by omega) (by omega)).trans e4⟩)
    have hBb:Below b w w4:=hB4'.mono (by omega);have hdr:Below w4.heap.size w4 w4.drew:=(ag _ _).drew;have hdo:Below w4.heap.size w4 (w4.alloc (.cells #[.bool true,.int .i64 y1.r.head,.slice y1.pb y1.r.args.length y1.cb,.int .i64 y2.r.head,.slice y2.pb y2.r.args.length y2.cb] 62)).drew:=((ag w4.heap.size w4).alloc (af _) _).drew
    have CWa:=ae (by
     have h:=ac9 C i hi (by omega) b a c w4.drew (by show b<=w4.heap.size;omega) (HC.out.below hBb.drew);rw[hE] at h;exact h)
    have CWb:=ae (by
     have h:=ac9 C i hi (by omega) b a c (w4.alloc (.cells #[.bool true,.int .i64 y1.r.head,.slice y1.pb y1.r.args.length y1.cb,.int .i64 y2.r.head,.slice y2.pb y2.r.args.length y2.cb] 62)).drew (by show b<=(w4.alloc (.cells #[.bool true,.int .i64 y1.r.head,.slice y1.pb y1.r.args.length y1.cb,.int .i64 y2.r.head,.slice y2.pb y2.r.args.length y2.cb] 62)).heap.size;simp;omega) (HC.out.below (hBb.trans (hdo.mono (by omega))));rw[hE] at h;exact h)
    have hlv:∀W:World,Below w4.heap.size w4 W->aa1 b W (⟨true,y1.r,y2.r,y1.pb,y1.cb,y2.pb,y2.cb⟩:LV):=fun W hW=>by
     have h1:=HLV.out.1.below (hBb.trans (hW.mono (by omega)));have h2:=HLV.out.2.below (hBb.trans (hW.mono (by omega)));exact⟨h1.rw,h2.rw,h1.ra,h2.ra⟩
    have HLT:=ae hlv
    have CO:=ae (fun(W:World) (g5 cap5:Nat) (hW:Below w4.heap.size w4 W) (hI:aaV W.heap.size W (E++[(⟨true,y1.r,y2.r,y1.pb,y1.cb,y2.pb,y2.cb⟩:LV)]) (some ⟨g5,0,none⟩) cap5)=>show Calls Tryz.prog 60 #[.pointer (some ⟨b,0,none⟩),.slice (some ⟨g5,0,none⟩) (E.length+1) cap5,.agg #[.int .i64 (i:Int),.int .i64 (k:Int)],.slice sa s.length sc] W (ag2 b (.slice ga g.length gc) (.slice a C.length c) how v (gps P++[⟨nmL (tidy (acL s (t3s (E++[(⟨true,y1.r,y2.r,y1.pb,y1.cb,y2.pb,y2.cb⟩:LV)])))),i,k,[],s⟩]) m W) from by
     have hcc:=afA g b (.slice ga g.length gc) (.slice a C.length c) how v P m hPl (E++[(⟨true,y1.r,y2.r,y1.pb,y1.cb,y2.pb,y2.cb⟩:LV)]) i k s HSS.out (fun y hy=>by
      rcases aG.1 hy with hy|hy
      ·exact HSE.out y hy
      ·obtain rfl:=List.mem_singleton.1 hy;exact⟨HLS.out.1.2,HLS.out.2.2⟩) k1 k2 (afb (by omega)) (afb (by omega)) W (h4.later hW) _ _ sa sc hI (HS3.out.keep (fun r hr=>(hb4.trans (hW.mono hb4.size)).block r hr.2.lt) (fun r hr=>⟨hr.1,hr.2.keep ((hb4.trans (hW.mono hb4.size)).block r hr.2.lt)⟩))
     rw[show(E++[(⟨true,y1.r,y2.r,y1.pb,y1.cb,y2.pb,y2.cb⟩:LV)]).length=E.length+1 from by simp] at hcc;exact hcc)
    have K3:=ae k3;have HB4:=ae hB4';have H4:=ae h4;obtain⟨i0,hi0,hz0,hz1',hz2'⟩:=info_parts agN;have hkm:E.length+1<=maxLen:=by unfold maxLen;omega
    have l3:w3.cell? ⟨w.heap.size,3,none⟩=some (.int .i64 y1.r.head):=(KP.out w3 HB3.out.1 3).1;have l4:w3.cell? ⟨w.heap.size,4,none⟩=some (.slice y1.pb y1.r.args.length y1.cb):=(KP.out w3 HB3.out.1 4).1;have l5:w3.cell? ⟨w.heap.size+1,3,none⟩=some (.int .i64 y2.r.head):=(KP.out w3 HB3.out.1 3).2;have l6:w3.cell? ⟨w.heap.size+1,4,none⟩=some (.slice y2.pb y2.r.args.length y2.cb):=(KP.out w3 HB3.out.1 4).2;clear k1 k2 k3 hlit hE hlc hz4 hz1 hb4 hB4 hB4' h4 hlv
    go_upto_region 8 with fail
    clear l3 l4 l5 l6 hw4;refine wp_region_noPanic ?_
    go_region_held3 (fun w'=>(w'.cell? ⟨b,3,none⟩=some (.slice a C.length c)/\w'.cell? ⟨w.heap.size,0,none⟩=some (.int .i64 (i:Int))/\w'.cell? ⟨w.heap.size+1,0,none⟩=some (.int .i64 (k:Int)))/\w'.cell? ⟨w3.heap.size,0,none⟩=some (.bool true)/\w'.cell? ⟨w3.heap.size,1,none⟩=some (.int .i64 y1.r.head)/\w'.cell? ⟨w3.heap.size,2,none⟩=some (.slice y1.pb y1.r.args.length y1.cb)/\w'.cell? ⟨w3.heap.size,3,none⟩=some (.int .i64 y2.r.head)/\w'.cell? ⟨w3.heap.size,4,none⟩=some (.slice y2.pb y2.r.args.length y2.cb))
     (first
      |with_reducible exact KQ.out _ (ag _ _)
      |with_reducible exact KQ.out _ hdr
      |with_reducible exact KQ.out _ hdo
      |with_reducible exact KQ.out _ hB8
      |with_reducible exact KQ.out _ hBA
      |with_reducible exact KQ.out _ hAA
      |with_reducible exact KQ.out _ hBB
      |with_reducible exact hS9)
     (first
     |(go_at_call 61;(with_reducible refine CWa.out.mono ?_);rintro e uA ⟨voA,rfl,hOA0,hbA⟩;have hOA:OL (· <b) w4.heap.size voA E uA:=hOA0;have hBA:Below w4.heap.size w4 uA:=hdr.trans hbA;have hnA:w4.heap.size<=uA.heap.size:=hBA.size;have hAA:=hBA.alloc hnA (.cells #[.bool true,.int .i64 y1.r.head,.slice y1.pb y1.r.args.length y1.cb,.int .i64 y2.r.head,.slice y2.pb y2.r.args.length y2.cb] 62))
     |(go_at_call 61;(with_reducible refine CWb.out.mono ?_);rintro e uB ⟨voB,rfl,hOB0,hbB⟩;have hsB:(w4.alloc (.cells #[.bool true,.int .i64 y1.r.head,.slice y1.pb y1.r.args.length y1.cb,.int .i64 y2.r.head,.slice y2.pb y2.r.args.length y2.cb] 62)).drew.heap.size=w4.heap.size+1:=(by show(w4.alloc (.cells #[.bool true,.int .i64 y1.r.head,.slice y1.pb y1.r.args.length y1.cb,.int .i64 y2.r.head,.slice y2.pb y2.r.args.length y2.cb] 62)).heap.size=_;simp);have hOB:OL (· <b) (w4.heap.size+1) voB E uB:=(by rw[←hsB];exact hOB0);have hBB:Below w4.heap.size w4 uB:=hdo.trans (hbB.mono (by omega));have hnB:w4.heap.size+1<=uB.heap.size:=(by have:=hbB.size;omega);have hnw:uB.heap[w4.heap.size]? =some (.cells #[.bool true,.int .i64 y1.r.head,.slice y1.pb y1.r.args.length y1.cb,.int .i64 y2.r.head,.slice y2.pb y2.r.args.length y2.cb] 62 (0,0)):=(hbB.block w4.heap.size (by omega)).trans (heap_alloc_new w4 _))
     |(go_at_call 60;refine(CO.out _ g5 cap5 hB8 hI8).mono ?_;rintro e w9 ⟨rfl,v9,G9,hG9,hP9,hF9⟩;have hS9:=KF.out _ w9 v9 G9 m hB8 hP9 hF9)
     |(refine step_append_lies _ (by rfl) _ _ _ (by rfl) w4.heap.size 62 i0 _ 5 72 Tryz.underlying23 hi0 hz0 hz1' hz2' rfl (by omega) voA E.length (aaf E) (by rfl) (hOA.1.alloc _) ⟨uA.heap.size,0,none⟩ 1 1 [.bool true,.int .i64 y1.r.head,.slice y1.pb y1.r.args.length y1.cb,.int .i64 y2.r.head,.slice y2.pb y2.r.args.length y2.cb] (by rfl) (by rfl) (World.news_of_block (cs:=#[.bool true,.int .i64 y1.r.head,.slice y1.pb y1.r.args.length y1.cb,.int .i64 y2.r.head,.slice y2.pb y2.r.args.length y2.cb]) (t:=62) (fr:=(0,0)) (heap_alloc_new uA _)) (by simp[Value.oneCell']) (by omega) hkm (by omega) (by simp;omega) (uA.heap.size+1) (by simp) ?_;intro g5 cap5 w8 hown8 hgrow8 hat8 hlt8;have hpush:=ak2 (z:=(⟨true,y1.r,y2.r,y1.pb,y1.cb,y2.pb,y2.cb⟩:LV)) hOA (by omega) hnA ((ag _ _).alloc (af _) _) (HLT.out uA hBA) hown8 hgrow8;have hB8:=hBA.trans hpush.2;have hI8:=hpush.1)
     |(refine step_append_lies _ (by rfl) _ _ _ (by rfl) (w4.heap.size+1) 62 i0 _ 5 72 Tryz.underlying23 hi0 hz0 hz1' hz2' rfl (by omega) voB E.length (aaf E) (by rfl) hOB.1 ⟨w4.heap.size,0,none⟩ 1 1 [.bool true,.int .i64 y1.r.head,.slice y1.pb y1.r.args.length y1.cb,.int .i64 y2.r.head,.slice y2.pb y2.r.args.length y2.cb] (by rfl) (by rfl) (World.news_of_block (cs:=#[.bool true,.int .i64 y1.r.head,.slice y1.pb y1.r.args.length y1.cb,.int .i64 y2.r.head,.slice y2.pb y2.r.args.length y2.cb]) (t:=62) (fr:=(0,0)) hnw) (by simp[Value.oneCell']) (by omega) hkm (by omega) hnB uB.heap.size rfl ?_;intro g5 cap5 w8 hown8 hgrow8 hat8 hlt8;have hpush:=ak2 (z:=(⟨true,y1.r,y2.r,y1.pb,y1.cb,y2.pb,y2.cb⟩:LV)) hOB (by omega) hnB (ag _ _) (HLT.out uB hBB) hown8 hgrow8;have hB8:=hBB.trans (hpush.2.mono (Nat.le_succ _));have hI8:=hpush.1))
    all_goals
     refine NoPanic.normal ?_;have HP9:=ae (And.intro hG9 (And.intro hP9 ((FrP.of (HB4.out.trans (hB8.mono (by have:=HB4.out.size;omega)))).trans hF9)));clear hG9 hP9 hF9;go_wp2
     go_end0
     rw[K3.out];exact⟨rfl,v9,G9,by rw[HP9.out.1];rfl,HP9.out.2.1,HP9.out.2.2⟩
  ·have hk2:(eE != 0)=true:=by simpa using hk0
   have HK:=ae hk0;have CL:=ae (afT b _ _ _ v P m (by omega) w3 H3.out);clear hk0
   go_wp2_with fail
   refine CL.out.mono ?_;rintro e w4 ⟨rfl,v',G,hGp,hP4,hF4⟩;have HP4:=ae (And.intro hGp (And.intro hP4 hF4));clear hGp hP4 hF4 CL;go_wp2
   go_end0
   rw[auN HX.out.1 HX.out.2 HTG.out HR.out (by rw[HE.out.1];exact HK.out)];exact⟨rfl,v',G,by rw[HP4.out.1];simp,HP4.out.2.1,(FrP.of HB3.out.2).trans HP4.out.2.2⟩
abbrev b2n(u:Bool):Nat:=if u then 1 else 0
abbrev sdE(i:Nat)(x:LV)(u:Bool):Array Value:=#[sdV i (sdY x (b2n u))]
def sdK(B1 B2:Nat)(W W':World):Prop:=W'.heap[B1]? =W.heap[B1]? /\W'.heap[B2]? =W.heap[B2]?
theorem awk{B1 B2:Nat}{X Y Z:World}(h:sdK B1 B2 X Y)(k:sdK B1 B2 Y Z):sdK B1 B2 X Z:=⟨k.1.trans h.1,k.2.trans h.2⟩
theorem awl{B1 B2 n:Nat}(h1:B1<n)(h2:B2<n)(W:World)(l:Nat)(o o':Obj)(hl:n<=l)(_:W.heap[l]? =some o)(_:o.isCells=false)(_:o.isWalk=false):sdK B1 B2 W (W.putObj l o'):=⟨World.putObj_heap_other (by omega),World.putObj_heap_other (by omega)⟩
theorem aha(C:List LV)(i:Nat)(x:LV)(hx:C[i]? =some x)(hCl:C.length<=1000)(aM:Nat)(a:Option Addr)(c:Nat)(w:World)(hn:aM<=w.heap.size)(hC:aaV aM w C a c):
 Calls Tryz.prog 70 #[.slice a C.length c,.int .i64 (i:Int)] w fun e w'=>e= .returned (.func (.func 120) #[] #[.pointer (some ⟨w.heap.size,0,none⟩),.pointer (some ⟨w.heap.size+1,0,none⟩)])/\w'=(w.alloc (.cells #[.int .i64 (i:Int)] 3)).alloc x.obj:=by
 have hi:=(ah.1 hx).1;obtain⟨bb,oo,y,rfl,hbb,hy,⟨e0,e1,e2,e3,e4⟩,_⟩:=hC.elem hi;have hyx:y=x:=by rw[hx] at hy;exact(Option.some.inj hy).symm
 subst hyx;have hk0:(0:Int)<=(i:Int):=by omega
 have hk1:(i:Int)<(C.length:Int):=by omega
 have hbw:bb<w.heap.size:=by omega
 have e0':(w.alloc (.cells #[.int .i64 (i:Int)] 3)).cell? ⟨bb,oo+i*5,none⟩=some (.bool y.n):=(aq (a:=⟨bb,oo+i*5,none⟩) (az w _ _ hbw)).trans e0;have e1':(w.alloc (.cells #[.int .i64 (i:Int)] 3)).cell? ⟨bb,oo+i*5+1,none⟩=some (.int .i64 y.l.head):=(aq (a:=⟨bb,oo+i*5+1,none⟩) (az w _ _ hbw)).trans e1;have e2':(w.alloc (.cells #[.int .i64 (i:Int)] 3)).cell? ⟨bb,oo+i*5+2,none⟩=some (.slice y.pa y.l.args.length y.ca):=(aq (a:=⟨bb,oo+i*5+2,none⟩) (az w _ _ hbw)).trans e2;have e3':(w.alloc (.cells #[.int .i64 (i:Int)] 3)).cell? ⟨bb,oo+i*5+3,none⟩=some (.int .i64 y.r.head):=(aq (a:=⟨bb,oo+i*5+3,none⟩) (az w _ _ hbw)).trans e3;have e4':(w.alloc (.cells #[.int .i64 (i:Int)] 3)).cell? ⟨bb,oo+i*5+4,none⟩=some (.slice y.pb y.r.args.length y.cb):=(aq (a:=⟨bb,oo+i*5+4,none⟩) (az w _ _ hbw)).trans e4;clear hC hy hx e0 e1 e2 e3 e4;go_enter Tryz.func70,Tryz.ntmps70;go_wp2;go_ret;exact⟨rfl,rfl⟩
theorem afD(F:Fence)(n:Nat)(hF:F.fn 120)(hro:F.round=none)(hn:1<=n)(i:Nat)(x:LV)(B1 B2:Nat)(w:World)(h1:B1<w.heap.size)(h2:B2<w.heap.size)(c0:w.heap[B1]? =some (.cells #[.int .i64 (i:Int)] 3 (0,0)))(c1:w.heap[B2]? =some x.obj):
 SeqStopsK F n Tryz.prog 120 #[.pointer (some ⟨B1,0,none⟩),.pointer (some ⟨B2,0,none⟩)] (sdE i x) (sdK B1 B2) (fun ys=>ys=[false,true]) (fun pre=>pre=[false]\/pre=[false,true]) 2 w:=fun l J Jx W hW _ _ hY h0=>by
 have KP:=ae (show ∀X:World,X.heap[B1]? =some (.cells #[.int .i64 (i:Int)] 3 (0,0))->X.heap[B2]? =some x.obj->X.cell? ⟨B1,0,none⟩=some (.int .i64 (i:Int))/\X.cell? ⟨B2,1,none⟩=some (.int .i64 x.l.head)/\X.cell? ⟨B2,2,none⟩=some (.slice x.pa x.l.args.length x.ca)/\X.cell? ⟨B2,3,none⟩=some (.int .i64 x.r.head)/\X.cell? ⟨B2,4,none⟩=some (.slice x.pb x.r.args.length x.cb) from fun X e1 e2=>by
  refine⟨?_,?_,?_,?_,?_⟩
  ·simp[World.cell?,e1]
  all_goals simp[World.cell?,e2])
 have e1:=(hW.block B1 h1).trans c0;have e2:=(hW.block B2 h2).trans c1;have HE:=ae (And.intro e1 e2);have HY:=ae hY;obtain⟨f1,t1,a1,b1,hy1,hR1⟩:=hY [] false W h0 (by simp);obtain⟨k0,k1,k2,k3,k4⟩:=KP.out W e1 e2;clear e1 e2 c0 c1 hY hW;refine callsIn_of_wp Tryz.func120 rfl hF ?_ hro;simp only[Tryz.ntmps120,List.size_toArray,List.length_cons,List.length_nil,Nat.reduceAdd,Nat.reduceSub,Array.replicate_succ,Array.replicate_zero,List.push_toArray,List.append_toArray,List.nil_append,List.cons_append];simp only[sdE,sdY,b2n,Bool.false_eq_true,if_false,if_true,↓reduceIte] at hy1
 gi_wp2
 refine hR1.mono ?_;rintro e W1 (⟨rfl,hJ1,hK1⟩|⟨rfl,hx1⟩)
 ·obtain⟨f2,t2,a2,b2,hy2,hR2⟩:=HY.out [false] true W1 hJ1 (by simp);simp only[sdE,sdY,b2n,Bool.false_eq_true,if_false,if_true,↓reduceIte,Nat.one_ne_zero,LV.turn] at hy2;obtain⟨k0,k1,k2,k3,k4⟩:=KP.out W1 (hK1.1.trans HE.out.1) (hK1.2.trans HE.out.2)
  gi_wp2
  refine hR2.mono ?_;rintro e W2 (⟨rfl,hJ2,_⟩|⟨rfl,hx2⟩)
  ·gi_wp2
   go_end0
   exact⟨⟨_,rfl⟩,.inl ⟨[false,true],rfl,hJ2⟩⟩
  ·gi_wp2
   go_end0
   exact⟨⟨_,rfl⟩,.inr ⟨[false,true],.inr rfl,hx2⟩⟩
 ·gi_wp2
  refine⟨(by intro f h;cases h),?_⟩
  gi_wp2
  go_end0
  exact⟨⟨_,rfl⟩,.inr ⟨[false],.inl rfl,hx1⟩⟩
end Go.Proofs.YtabfapijgfjflaaGreat
