import Derived.Test.YtabfapijgfjflaaGreatMQBf
import Derived.Test.YtabfapijgfjflaaGreatMQBa
import Derived.Test.YtabfapijgfjflaaGreatMQBb
import Derived.Deep.LoopGhost
import Derived.RegionTactic
import Derived.BigRegion
import Derived.Deep.DeepMust
import Derived.Maps.AppendAt
import Derived.WalkMore
import Derived.Test.YtabfapijgfjflaaGreatMQBe
import Derived.RangeFuncNested
import Derived.RangeFuncBound
import Derived.RangeFuncCalls
import Derived.RangeFuncLeaves
import Derived.Shelf.Abstract
import Derived.Shelf.RegionOpen
import Derived.OwnWalkIn
import Derived.TacticsInMore
import Derived.LoopNIn
import Derived.LoopIn
import Derived.Test.YtabfapijgfjflaaGreatMAl
set_option linter.unusedVariables false
set_option linter.unusedSimpArgs false
set_option maxRecDepth 100000
set_option maxHeartbeats 4000000
namespace Go.Proofs.YtabfapijgfjflaaGreat
open Go.RowKit
def au1(H:Nat)(w:World)(R:Option (List (List T×List T)))(N:Nat)(gk:Nat)(v:Value)(W:World):Prop:=
 ∃fs vs,W.ownsRow (H+4) 243 2 v fs.length (aeU vs)/\ahk (H+4) W fs vs/\resume fs=R/\gk=ac2 fs/\fs.length+ac2 fs<=N/\H+5<=W.heap.size/\Below H w W
def awN(xs ys:List T)(fs:List (List T×List T))(R:Option (List (List T×List T)))(w1:World)(stv:Value)(gk:Nat)(st i:Value)(wq:World):Prop:=
 ∃j:Nat,j<=xs.length/\gk=xs.length-j/\i= .int .i64 j/\st=stv/\Below w1.heap.size w1 wq/\resume ((xs.drop j,ys.drop j)::fs)=R
def ao5(a b:T)(w:World)(e:Ending)(w':World):Prop:=
 ∃v fs vs,e= .returned v/\w'.ownsRow (w.heap.size+4) 243 2 v fs.length (aeU vs)/\ahk (w.heap.size+4) w' fs vs/\resume [([a],[b])]=(if fs=[] then none else some fs)/\Below w.heap.size w w'
theorem au1.start{x y:T}{a:Option Addr}{c:Nat}{a':Option Addr}{c':Nat}{w:World}(hxw:(Lit.int .i64 x.head).wf=true)(hyw:(Lit.int .i64 y.head).wf=true)(hA:aab w.heap.size w x.args a c)(hB:aab w.heap.size w y.args a' c'):
 au1 w.heap.size w (resume [([x],[y])]) (2*x.size+2) (2*x.size+1) (.slice (some ⟨w.heap.size+1+1+1+1,0,none⟩) 1 1)
  (((((w.alloc (aaa x.head a x.args.length c)).alloc (aaa y.head a' y.args.length c')).alloc (aaa x.head a x.args.length c)).alloc (aaa y.head a' y.args.length c')).alloc (.cells #[.slice (some ⟨w.heap.size+1+1,0,none⟩) 1 1,.slice (some ⟨w.heap.size+1+1+1,0,none⟩) 1 1] 243)):=by
 obtain⟨W4,hW4⟩:∃W4,((((w.alloc (aaa x.head a x.args.length c)).alloc (aaa y.head a' y.args.length c')).alloc (aaa x.head a x.args.length c)).alloc (aaa y.head a' y.args.length c'))=W4:=⟨_,rfl⟩;have hb:Below w.heap.size w W4:=by rw[←hW4];exact((((ag _ w).alloc (af _) _).alloc (by simp) _).alloc (by simp;omega) _).alloc (by simp;omega) _
 have hs:W4.heap.size=w.heap.size+4:=by rw[←hW4];simp
 have c1:W4.cell? ⟨w.heap.size+1+1,0,none⟩=some (.int .i64 x.head):=by rw[←hW4];simp[go_sem]
 have c2:W4.cell? ⟨w.heap.size+1+1,1,none⟩=some (.slice a x.args.length c):=by rw[←hW4];simp[go_sem]
 have c3:W4.cell? ⟨w.heap.size+1+1+1,0,none⟩=some (.int .i64 y.head):=by rw[←hW4];simp[go_sem]
 have c4:W4.cell? ⟨w.heap.size+1+1+1,1,none⟩=some (.slice a' y.args.length c'):=by rw[←hW4];simp[go_sem]
 rw[hW4];clear hW4;have hb5:Below (w.heap.size+4) W4 (W4.alloc (.cells #[.slice (some ⟨w.heap.size+1+1,0,none⟩) 1 1,.slice (some ⟨w.heap.size+1+1+1,0,none⟩) 1 1] 243)):=(ag _ _).alloc (by omega) _;refine⟨[([x],[y])],[(.slice (some ⟨w.heap.size+1+1,0,none⟩) 1 1,.slice (some ⟨w.heap.size+1+1+1,0,none⟩) 1 1)],?_,?_,rfl,by simp[ac2,T.sizes],by simp[ac2,T.sizes];omega,by simp;omega,hb.alloc (by omega) _⟩
 ·have:=World.ownsRow_lit (base:=w.heap.size+4) (e:=243) (size:=2) W4 #[.slice (some ⟨w.heap.size+1+1,0,none⟩) 1 1,.slice (some ⟨w.heap.size+1+1+1,0,none⟩) 1 1] 1 (by omega) (by simp[maxLen]) (by simp);rw[hs] at this;simpa[aeU] using this
 ·refine ahk.below hb5 ⟨⟨_,_,rfl,af _,by simp[maxLen],.inr ⟨_,_,rfl,by omega,aaO.2 ⟨hxw,c1,a,c,c2,(hA.below hb).mono (by omega)⟩,trivial⟩⟩,⟨_,_,rfl,af _,by simp[maxLen],.inr ⟨_,_,rfl,by omega,aaO.2 ⟨hyw,c3,a',c',c4,(hB.below hb).mono (by omega)⟩,trivial⟩⟩,rfl,trivial⟩
theorem aab.tail_of{aN:Nat}{W:World}{ts:List T}{b o c:Nat}(h:aab aN W ts (some ⟨b,o,none⟩) c){j:Nat}(hj:j<ts.length):aab aN W (ts.drop j) (some ⟨b,o+j*2,none⟩) (c-j):=by
 have h1:=h.tail (Nat.le_of_lt hj);rw[if_neg (by have:=h.1;omega)] at h1;exact h1
theorem amD{x y:T}{w w1 wx:World}{g cap:Nat}{fs:List (List T×List T)}{vs:List (Value×Value)}{xs ys:List T}{b1 o1 b2 o2 c1 c2 j:Nat}{s1 s2:T}
 (hO:w1.ownsRow (w.heap.size+4) 243 2 (.slice (some ⟨g,0,none⟩) (fs.length+1) cap) (fs.length+1) (aeU ((.slice (some ⟨b1,o1,none⟩) xs.length c1,.slice (some ⟨b2,o2,none⟩) ys.length c2)::vs))) (hk:fs.length=vs.length)
 (hb:Below w1.heap.size w1 wx) (hF:ahk (w.heap.size+4) w1 ((xs,ys)::fs) ((.slice (some ⟨b1,o1,none⟩) xs.length c1,.slice (some ⟨b2,o2,none⟩) ys.length c2)::vs)) (h1:xs[j]? =some s1) (h2:ys[j]? =some s2) (hd:differ s1 s2)
 (hR:resume ((xs.drop j,ys.drop j)::fs)=resume [([x],[y])]) (hw:Below w.heap.size w w1) (hsz:w.heap.size+4<=w1.heap.size):
 ao5 x y w (.returned (.slice (some ⟨g,0,none⟩) (fs.length+1) cap)) (((wx.setCell ⟨g,fs.length*2,none⟩ (.slice (some ⟨b1,o1+j*2,none⟩) (xs.length-j) (c1-j))).setCell ⟨g,fs.length*2+1,none⟩ (.slice (some ⟨b2,o2+j*2,none⟩) (ys.length-j) (c2-j))).drew):=by
 obtain⟨hO2,hB2⟩:=ab9 hO hk hb (.slice (some ⟨b1,o1+j*2,none⟩) (xs.length-j) (c1-j)) (.slice (some ⟨b2,o2+j*2,none⟩) (ys.length-j) (c2-j));have hF2:=hF.below ((hb.mono hsz).trans hB2);obtain⟨⟨a1,d1,e1,hA1⟩,⟨a2,d2,e2,hA2⟩,hlen,hF3⟩:=hF2;cases e1;cases e2;have hj1:j<xs.length:=(ah.1 h1).1;have hj2:j<ys.length:=(ah.1 h2).1;refine⟨_,(xs.drop j,ys.drop j)::fs,_,rfl,hO2,⟨⟨_,_,by simp,hA1.tail_of hj1⟩,⟨_,_,by simp,hA2.tail_of hj2⟩,by simp;dsimp only at hlen;omega,hF3⟩,?_,hw.trans ((hb.mono (by omega)).trans (hB2.mono (by omega)))⟩;rw[←hR,afF h1 h2 hd];simp
theorem avk:(Tryz.prog.info? 243).map (fun i=>(i.zero,i.size,i.bytes))=some (some (.agg #[.slice none 0 0,.slice none 0 0]),2,48):=by kernel_rfl
theorem ac3(w:World)(v u:Value)(t:TypeId)(k:Nat)(hk:k=w.heap.size):∀(j:Nat) (x:Value),[v,u][j]? =some x->(w.alloc (.cells #[v,u] t)).cell? ((⟨k,0,none⟩:Addr).add j)=some x:=by
 subst hk;intro j x hx
 match j,hx with
 |0,hx=>simp at hx;subst hx;simp[Addr.add]
 |1,hx=>simp at hx;subst hx;simp[Addr.add]
 |j+2,hx=>simp at hx
theorem tail_nil{aN:Nat}{W:World}{ts:List T}{b o c j:Nat}(_h:aab aN W ts (some ⟨b,o,none⟩) c)(hj:ts.length<=j+1):∃a d,(Value.slice (some ⟨b,o,none⟩) 0 0)= .slice a (ts.drop (j+1)).length d/\aab aN W (ts.drop (j+1)) a d:=by
 have h0:ts.drop (j+1)=[]:=by rw[List.drop_eq_nil_iff];omega
 rw[h0];exact⟨_,_,rfl,af _,by simp[maxLen],.inl rfl⟩
theorem aen{aN:Nat}{W:World}{ts:List T}{b o c j:Nat}(h:aab aN W ts (some ⟨b,o,none⟩) c)(hc:¬c=j+1)(hj:j<ts.length):∃a d,(Value.slice (some ⟨b,o+(j+1)*2,none⟩) (ts.length-(j+1)) (c-(j+1)))= .slice a (ts.drop (j+1)).length d/\aab aN W (ts.drop (j+1)) a d:=by
 have h1:=h.tail (j:=j+1) (by omega);rw[if_neg hc] at h1;exact⟨_,_,by simp,h1⟩
theorem afN{w wr wx wz w2:World}{R:Option (List (List T×List T))}{N g cap:Nat}{fs:List (List T×List T)}{vs:List (Value×Value)}{xs ys:List T}{u1 u2 v':Value}{p1 p2:Option Addr}{q1 q2 j:Nat}{s1 s2:T}{tmp:Obj}
 (hO:wz.ownsRow (w.heap.size+4) 243 2 (.slice (some ⟨g,0,none⟩) (fs.length+1) cap) (fs.length+1) (aeU ((u1,u2)::vs))) (_hk:fs.length=vs.length) (hF:ahk (w.heap.size+4) wr fs vs)
 (hu1:∃a d,u1= .slice a (xs.drop (j+1)).length d/\aab (w.heap.size+4) wr (xs.drop (j+1)) a d) (hu2:∃a d,u2= .slice a (ys.drop (j+1)).length d/\aab (w.heap.size+4) wr (ys.drop (j+1)) a d)
 (hs1:aab (w.heap.size+4) wr s1.args p1 q1) (hs2:aab (w.heap.size+4) wr s2.args p2 q2) (hlen:xs.length=ys.length) (hdl:s1.args.length=s2.args.length)
 (hbx:Below wr.heap.size wr wx) (hbz:Below (w.heap.size+4) wx wz) (h1:xs[j]? =some s1) (h2:ys[j]? =some s2) (hnd:¬differ s1 s2) (hR:resume ((xs.drop j,ys.drop j)::fs)=R) (hw:Below w.heap.size w wr) (hsz:w.heap.size+5<=wz.heap.size) (hszr:w.heap.size+4<=wr.heap.size)
 (hO3:w2.ownsRow (w.heap.size+4) 243 2 v' (fs.length+1+1) (aeU ((u1,u2)::vs)++[.slice p1 s1.args.length q1,.slice p2 s2.args.length q2])) (hg3:(wz.alloc tmp).grownBy w2 (some g)) (hN:fs.length+1+1+ac2 ((s1.args,s2.args)::(xs.drop (j+1),ys.drop (j+1))::fs)<=N):
 au1 w.heap.size w R N (ac2 ((s1.args,s2.args)::(xs.drop (j+1),ys.drop (j+1))::fs)) v' w2:=by
 have hg:=(hO.lt g rfl).1;have hb:Below (w.heap.size+4) wr w2:=((hbx.mono hszr).trans hbz).trans (((ag _ wz).alloc (by omega) tmp).grown hg3 (by simp;omega) (fun k e=>by cases e;exact hg));obtain⟨a,d,e1,hA1⟩:=hu1;obtain⟨a',d',e2,hA2⟩:=hu2;refine⟨(s1.args,s2.args)::(xs.drop (j+1),ys.drop (j+1))::fs,(.slice p1 s1.args.length q1,.slice p2 s2.args.length q2)::(u1,u2)::vs,hO3,⟨⟨_,_,rfl,hs1.below hb⟩,⟨_,_,rfl,hs2.below hb⟩,hdl,⟨_,_,e1,hA1.below hb⟩,⟨_,_,e2,hA2.below hb⟩,by simp[hlen],hF.below hb⟩,?_,rfl,hN,?_,hw.trans (hb.mono (by omega))⟩
 ·rw[←hR,ahx h1 h2 hnd]
 ·have:=hg3.size;simp at this;omega
theorem atN{w w1 wr:World}{R:Option (List (List T×List T))}{N g cap:Nat}{fs:List (List T×List T)}{vs:List (Value×Value)}{xs ys:List T}{v:Value×Value}{j:Nat}
 (hO:w1.ownsRow (w.heap.size+4) 243 2 (.slice (some ⟨g,0,none⟩) (fs.length+1) cap) (fs.length+1) (aeU (v::vs))) (hk:fs.length=vs.length) (hF:ahk (w.heap.size+4) w1 ((xs,ys)::fs) (v::vs))
 (hb:Below w1.heap.size w1 wr) (hsz:w.heap.size+5<=w1.heap.size) (hj:j=xs.length) (hR:resume ((xs.drop j,ys.drop j)::fs)=R) (hw:Below w.heap.size w w1) (hN:fs.length+ac2 fs<=N) (hsz4:w.heap.size+4<=w1.heap.size):
 au1 w.heap.size w R N (ac2 fs) (.slice (some ⟨g,0,none⟩) fs.length cap) wr:=by
 have hg:=hO.lt g rfl;have hO1:=abA hO (hb.block g hg.2);rw[aeU] at hO1;refine⟨fs,vs,ownsRow_pop (by rw[aaS,hk]) hO1,(hF.below (hb.mono hsz4)).2.2.2,?_,rfl,hN,aE hsz hb.size,hw.trans (hb.mono (by omega))⟩;rw[←hR,hj,List.drop_length,ahO]
theorem akg(x y:T)(hx:x.size<=1000000000000)(aM:Nat)(a:Option Addr)(c:Nat)(a':Option Addr)(c':Nat)(w:World)(hn:aM<=w.heap.size)(hxw:(Lit.int .i64 x.head).wf=true)(hyw:(Lit.int .i64 y.head).wf=true)(hA:aab aM w x.args a c)(hB:aab aM w y.args a' c'):
 Calls Tryz.prog 177 #[tm x.head a x.args.length c,tm y.head a' y.args.length c'] w (ao5 x y w):=by
 have HA:=ae (hA.mono hn);have HB:=ae (hB.mono hn);clear hA hB hn aM;go_enter Tryz.func177,Tryz.ntmps177;go_wp2
 go_step3
 go_wp2
 go_step3
 go_wp2
 go_loopg [5] (2*x.size+1) (fun gk v wr=>au1 w.heap.size w (resume [([x],[y])]) (2*x.size+2) gk v wr)
 case atStart=>exact au1.start hxw hyw HA.out HB.out
 case round=>
  clear HA HB hxw hyw;obtain⟨fs,vs,hown,hfrs,hres,hgk,hN,hsz,hbel⟩:=hrel;have HR:=ae hres;have HG:=ae hgk;have HBL:=ae hbel;have HF:=ae hfrs;clear hres hgk hbel hfrs;cases fs with
  |nil=>
   have hu:∃a1 c1,u5= .slice a1 0 c1:=by
    rcases hown.2 with⟨h,_⟩|⟨g,cap,cur,h,_⟩
    ·exact⟨_,_,h⟩
    ·exact⟨_,_,h⟩
   obtain⟨a1,c1,rfl⟩:=hu;have HO:=ae hown;clear hown;go_wp2;go_ret;refine⟨_,[],vs,rfl,HO.out,HF.out,?_,HBL.out⟩;rw[←HR.out];rfl
  |cons p fs=>
   cases vs with
   |nil=>exact HF.out.elim
   |cons v vs=>
    obtain⟨xs,ys⟩:=p;obtain⟨v1,v2⟩:=v;obtain⟨⟨a1,c1,e1,hA1⟩,⟨a2,c2,e2,hA2⟩,hlen,hF2⟩:=HF.out;dsimp only at e1 e2 hA1 hA2 hlen;subst e1 e2;obtain⟨g,cap,rfl⟩:=ownsRow_succ hown;have hvl:fs.length=vs.length:=hF2.length
    have hcell1:wr.cell? ⟨g,fs.length*2,none⟩=some (.slice a1 xs.length c1):=by
     rw[hown.cellAt _ (by omega),hvl,afL]
    have hcell2:wr.cell? ⟨g,fs.length*2+1,none⟩=some (.slice a2 ys.length c2):=by
     rw[hown.cellAt _ (by omega),hvl,afM]
    have hc1:=hA1.2.1;have hc1':=hA1.1;unfold maxLen at hc1;have HO:=ae hown;have HVL:=ae hvl;have HLN:=ae hlen;clear hown hvl hF2 hA1 hA2 hlen;simp only[List.length_cons] at hN;go_wp2;have hbw:Below wr.heap.size wr (wr.alloc (.cells #[.slice a1 xs.length c1,.slice a2 ys.length c2] 243)):=(ag _ _).alloc (af _) _;have hbx1:(wr.alloc (.cells #[.slice a1 xs.length c1,.slice a2 ys.length c2] 243)).cell? ⟨wr.heap.size,0,none⟩=some (.slice a1 xs.length c1):=by simp[go_sem]
    have hbx2:(wr.alloc (.cells #[.slice a1 xs.length c1,.slice a2 ys.length c2] 243)).cell? ⟨wr.heap.size,1,none⟩=some (.slice a2 ys.length c2):=by simp[go_sem]
    have hsz1:(wr.alloc (.cells #[.slice a1 xs.length c1,.slice a2 ys.length c2] 243)).heap.size=wr.heap.size+1:=by simp
    have hO1:=HO.out.alloc (.cells #[.slice a1 xs.length c1,.slice a2 ys.length c2] 243);have hF1:=HF.out.below (hbw.mono (by omega));have hL1:=HBL.out.trans (hbw.mono (by omega));generalize wr.alloc (.cells #[.slice a1 xs.length c1,.slice a2 ys.length c2] 243)=w1 at hbw hbx1 hbx2 hsz1 hO1 hF1 hL1 ⊢;generalize wr.heap.size=Bp at hbx1 hbx2 hsz1 hsz ⊢;clear HBL HF HO hbw hcell1 hcell2;have HB1:=ae hbx1;have HB2:=ae hbx2;have HS1:=ae hsz1;have HO:=ae hO1;have HF:=ae hF1;have HBL:=ae hL1;clear hbx1 hbx2 hsz1 hO1 hF1 hL1
    go_loopg [5,30] xs.length (fun gk st i wq=>awN xs ys fs (resume [([x],[y])]) w1 (.slice (some ⟨g,0,none⟩) (fs.length+1) cap) gk st i wq)
    case atStart=>exact⟨0,Nat.zero_le _,rfl,rfl,rfl,ag _ _,by simpa using HR.out⟩
    case round=>
     clear HR;obtain⟨j,hj,hgj,rfl,rfl,hbq,hres⟩:=hrel;have HGJ:=ae hgj;have HR:=ae hres;have HBQ:=ae hbq;clear hgj hres hbq;have hb1:wr.cell? ⟨Bp,0,none⟩=some (.slice a1 xs.length c1):=(HBQ.out.cell (p:=⟨Bp,0,none⟩) (by rw[HS1.out];simp)).trans HB1.out;have hb2:wr.cell? ⟨Bp,1,none⟩=some (.slice a2 ys.length c2):=(HBQ.out.cell (p:=⟨Bp,1,none⟩) (by rw[HS1.out];simp)).trans HB2.out;have hszq:Bp+1<=wr.heap.size:=by have:=HBQ.out.size;rw[HS1.out] at this;exact this
     by_cases hlt:j<xs.length
     ·have hFq:=HF.out.below (HBQ.out.mono (by rw[HS1.out];omega));obtain⟨⟨a1',c1',e1,hA1⟩,⟨a2',c2',e2,hA2⟩,hlen,hF2⟩:=hFq;dsimp only at e1 e2 hA1 hA2 hlen;cases e1;cases e2;obtain⟨b1,o1,s1,p1,q1,rfl,hbn1,hs1,hw1,hd1,hd2,hsA1⟩:=hA1.elem hlt;obtain⟨b2,o2,s2,p2,q2,rfl,hbn2,hs2,hw2,hd3,hd4,hsA2⟩:=hA2.elem (i:=j) (by omega);have hlt2:j<ys.length:=by omega
      have hlc2:ys.length<=c2:=hA2.1;have hlm2:=hA2.2.1;unfold maxLen at hlm2;have hgl:=HO.out.lt g rfl;have hfz1:wr.frozen? ⟨g,fs.length*2,none⟩=false:=(HBQ.out.frozen (p:=⟨g,fs.length*2,none⟩) hgl.2).trans (HO.out.frozenAt _);have hfz2:wr.frozen? ⟨g,fs.length*2+1,none⟩=false:=(HBQ.out.frozen (p:=⟨g,fs.length*2+1,none⟩) hgl.2).trans (HO.out.frozenAt _)
      have hgc1:wr.cell? ⟨g,fs.length*2,none⟩=some (.slice (some ⟨b1,o1,none⟩) xs.length c1):=by
       rw[HBQ.out.cell (p:=⟨g,fs.length*2,none⟩) hgl.2,HO.out.cellAt _ (by omega),HVL.out,afL]
      have hgc2:wr.cell? ⟨g,fs.length*2+1,none⟩=some (.slice (some ⟨b2,o2,none⟩) ys.length c2):=by
       rw[HBQ.out.cell (p:=⟨g,fs.length*2+1,none⟩) hgl.2,HO.out.cellAt _ (by omega),HVL.out,afM]
      have hg1:g<wr.heap.size:=World.block_lt_of_cell? wr ⟨g,fs.length*2,none⟩ hgc1;have hl1:b1<wr.heap.size:=World.block_lt_of_cell? wr ⟨b1,o1+j*2,none⟩ hd1;have hl2:b2<wr.heap.size:=World.block_lt_of_cell? wr ⟨b2,o2+j*2,none⟩ hd3;have hp1:Bp<wr.heap.size:=by omega
      have hg1':g<wr.heap.size+1:=by omega
      have hl2':b2<wr.heap.size+1:=by omega
      have hp1':Bp<wr.heap.size+1:=by omega
      have HGL:=ae hgl;clear hgl;have HS1':=ae hs1;have HS2':=ae hs2;have HA1:=ae hA1;have HA2:=ae hA2;have HSA1:=ae hsA1;have HSA2:=ae hsA2;have HF2:=ae hF2;clear hs1 hs2 hA1 hA2 hsA1 hsA2 hF2 hlen hw1 hw2 hbn1 hbn2;by_cases hdh:s1.head=s2.head
      ·have heq1:(s1.head==s2.head)=true:=by simpa using hdh
       have heq2:(s1.head != s2.head)=false:=by simpa using hdh
       have HDH:=ae hdh;clear hdh;by_cases hdl:s1.args.length=s2.args.length
       ·have HDL:=ae hdl;have hll1:((s1.args.length:Int)==(s2.args.length:Int))=true:=by simp;omega
        have hll2:((s1.args.length:Int) != (s2.args.length:Int))=false:=by simp;omega
        have hll3:(s1.args.length==s2.args.length)=true:=by simp;omega
        have hll4:(s1.args.length != s2.args.length)=false:=by simp;omega
        have hnd:¬differ s1 s2:=by unfold differ;rw[HDH.out,HDL.out];simp
        have HND:=ae hnd;clear hnd hdl;by_cases hz:s1.args.length=0
        ·have hz0:decide ((0:Int)<(s1.args.length:Int))=false:=by rw[decide_eq_false_iff_not];omega
         have hz1:¬0<s1.args.length:=by omega
         have HZ:=ae hz;clear hz;go_wp2
         go_roundg (xs.length-(j+1))
         case measure=>rw[HGJ.out];omega
         case rel=>
          exact⟨j+1,by omega,rfl,by go_num,rfl,HBQ.out.trans ((((ag _ wr).alloc (af _) _).alloc (by simp) _).mono HBQ.out.size),by rw[←HR.out,ahy HS1'.out HS2'.out HND.out HZ.out]⟩
        ·have hz1:0<s1.args.length:=by omega
         obtain⟨i0,hi,hi0,hi1,hi2⟩:=info_parts avk;go_wp2;have hx1:((wr.alloc (aaa s1.head p1 s1.args.length q1)).alloc (aaa s2.head p2 s2.args.length q2)).cell? ⟨wr.heap.size,1,none⟩=some (.slice p1 s1.args.length q1):=by simp[go_sem]
         have hx2:((wr.alloc (aaa s1.head p1 s1.args.length q1)).alloc (aaa s2.head p2 s2.args.length q2)).cell? ⟨wr.heap.size+1,1,none⟩=some (.slice p2 s2.args.length q2):=by simp[go_sem]
         generalize hwx:(wr.alloc (aaa s1.head p1 s1.args.length q1)).alloc (aaa s2.head p2 s2.args.length q2)=wx at hx1 hx2 ⊢;have hbx:Below wr.heap.size wr wx:=by rw[←hwx];exact((ag _ _).alloc (af _) _).alloc (by simp) _
         have hsx:wx.heap.size=wr.heap.size+2:=by rw[←hwx];simp
         clear hwx;have k1:=(hbx.cell (p:=⟨Bp,0,none⟩) hp1).trans hb1;have k2:=(hbx.cell (p:=⟨Bp,1,none⟩) hp1).trans hb2;have k3:=(hbx.cell (p:=⟨g,fs.length*2,none⟩) hg1).trans hgc1;have k4:=(hbx.cell (p:=⟨g,fs.length*2+1,none⟩) hg1).trans hgc2;have k5:=(hbx.frozen (p:=⟨g,fs.length*2,none⟩) hg1).trans hfz1;have k6:=(hbx.frozen (p:=⟨g,fs.length*2+1,none⟩) hg1).trans hfz2;have HBX:=ae hbx;have HSX:=ae hsx;clear hbx hsx;by_cases hcj1:c1=j+1
         ·by_cases hcj2:c2=j+1
          ·subst hcj1 hcj2
           go_region
           obtain⟨hO2,hB2⟩:=ab9 HO.out HVL.out (HBQ.out.trans (HBX.out.mono HBQ.out.size)) (.slice (some ⟨b1,o1,none⟩) 0 0) (.slice (some ⟨b2,o2,none⟩) 0 0);have hy1:(((wx.setCell ⟨g,fs.length*2,none⟩ (.slice (some ⟨b1,o1,none⟩) 0 0)).setCell ⟨g,fs.length*2+1,none⟩ (.slice (some ⟨b2,o2,none⟩) 0 0)).drew).cell? ⟨wr.heap.size,1,none⟩=some (.slice p1 s1.args.length q1):=(aq (a:=⟨wr.heap.size,1,none⟩) ((an _ _ _ _ (by simp;omega)).trans (an _ _ _ _ (by simp;omega)))).trans hx1;have hy2:(((wx.setCell ⟨g,fs.length*2,none⟩ (.slice (some ⟨b1,o1,none⟩) 0 0)).setCell ⟨g,fs.length*2+1,none⟩ (.slice (some ⟨b2,o2,none⟩) 0 0)).drew).cell? ⟨wr.heap.size+1,1,none⟩=some (.slice p2 s2.args.length q2):=(aq (a:=⟨wr.heap.size+1,1,none⟩) ((an _ _ _ _ (by simp;omega)).trans (an _ _ _ _ (by simp;omega)))).trans hx2;have hsz2:(((wx.setCell ⟨g,fs.length*2,none⟩ (.slice (some ⟨b1,o1,none⟩) 0 0)).setCell ⟨g,fs.length*2+1,none⟩ (.slice (some ⟨b2,o2,none⟩) 0 0)).drew).heap.size=wr.heap.size+2:=by have:=HSX.out;simpa using this
           generalize ((wx.setCell ⟨g,fs.length*2,none⟩ (.slice (some ⟨b1,o1,none⟩) 0 0)).setCell ⟨g,fs.length*2+1,none⟩ (.slice (some ⟨b2,o2,none⟩) 0 0)).drew=wz at hO2 hB2 hy1 hy2 hsz2 ⊢;have HO2:=ae hO2;have HB2':=ae hB2;have HSZ2:=ae hsz2;clear hO2 hB2 hsz2 k1 k2 k3 k4 k5 k6 hx1 hx2
           go_wp2_with (at_builtin;refine aaG ?_)
           refine ae ?_;refine wpList_append_own _ rfl _ _ 210 rfl (w.heap.size+4) 243 i0 (.agg #[.slice none 0 0,.slice none 0 0]) 2 48 Tryz.underlying210 hi hi0 hi1 hi2 rfl (by decide) (.slice (some ⟨g,0,none⟩) (fs.length+1) cap) (fs.length+1) _ rfl (HO2.out.alloc _) ⟨wz.heap.size,0,none⟩ 1 1 [.slice p1 s1.args.length q1,.slice p2 s2.args.length q2] rfl rfl (ac3 _ _ _ _ _ rfl) (by simp[Value.oneCell']) (by unfold maxLen;omega) (by omega) (by have:=HSZ2.out;simp;omega) ?_;intro v' w2 hown2 hgrow2 _;have HO3:=ae hown2;have HG3:=ae hgrow2;clear hown2 hgrow2;go_wp2
           go_roundg (ac2 ((s1.args,s2.args)::(xs.drop (j+1),ys.drop (j+1))::fs))
           case measure=>rw[HG.out];exact abw HS1'.out fs
           case rel=>exact afN HO2.out HVL.out HF2.out (tail_nil HA1.out (by omega)) (tail_nil HA2.out (by omega)) HSA1.out HSA2.out HLN.out HDL.out HBX.out HB2'.out HS1'.out HS2'.out HND.out HR.out (HBL.out.trans (HBQ.out.mono (by rw[HS1.out];omega))) (by have:=HSZ2.out;omega) (by omega) HO3.out HG3.out (by have:=abw (ys:=ys) (zs:=s2.args) (bs:=ys.drop (j+1)) HS1'.out fs;omega)
          ·subst hcj1
           go_region
           obtain⟨hO2,hB2⟩:=ab9 HO.out HVL.out (HBQ.out.trans (HBX.out.mono HBQ.out.size)) (.slice (some ⟨b1,o1,none⟩) 0 0) (.slice (some ⟨b2,o2+(j+1)*2,none⟩) (ys.length-(j+1)) (c2-(j+1)));have hy1:(((wx.setCell ⟨g,fs.length*2,none⟩ (.slice (some ⟨b1,o1,none⟩) 0 0)).setCell ⟨g,fs.length*2+1,none⟩ (.slice (some ⟨b2,o2+(j+1)*2,none⟩) (ys.length-(j+1)) (c2-(j+1)))).drew).cell? ⟨wr.heap.size,1,none⟩=some (.slice p1 s1.args.length q1):=(aq (a:=⟨wr.heap.size,1,none⟩) ((an _ _ _ _ (by simp;omega)).trans (an _ _ _ _ (by simp;omega)))).trans hx1;have hy2:(((wx.setCell ⟨g,fs.length*2,none⟩ (.slice (some ⟨b1,o1,none⟩) 0 0)).setCell ⟨g,fs.length*2+1,none⟩ (.slice (some ⟨b2,o2+(j+1)*2,none⟩) (ys.length-(j+1)) (c2-(j+1)))).drew).cell? ⟨wr.heap.size+1,1,none⟩=some (.slice p2 s2.args.length q2):=(aq (a:=⟨wr.heap.size+1,1,none⟩) ((an _ _ _ _ (by simp;omega)).trans (an _ _ _ _ (by simp;omega)))).trans hx2;have hsz2:(((wx.setCell ⟨g,fs.length*2,none⟩ (.slice (some ⟨b1,o1,none⟩) 0 0)).setCell ⟨g,fs.length*2+1,none⟩ (.slice (some ⟨b2,o2+(j+1)*2,none⟩) (ys.length-(j+1)) (c2-(j+1)))).drew).heap.size=wr.heap.size+2:=by have:=HSX.out;simpa using this
           generalize ((wx.setCell ⟨g,fs.length*2,none⟩ (.slice (some ⟨b1,o1,none⟩) 0 0)).setCell ⟨g,fs.length*2+1,none⟩ (.slice (some ⟨b2,o2+(j+1)*2,none⟩) (ys.length-(j+1)) (c2-(j+1)))).drew=wz at hO2 hB2 hy1 hy2 hsz2 ⊢;have HO2:=ae hO2;have HB2':=ae hB2;have HSZ2:=ae hsz2;clear hO2 hB2 hsz2 k1 k2 k3 k4 k5 k6 hx1 hx2
           go_wp2_with (at_builtin;refine aaG ?_)
           refine ae ?_;refine wpList_append_own _ rfl _ _ 210 rfl (w.heap.size+4) 243 i0 (.agg #[.slice none 0 0,.slice none 0 0]) 2 48 Tryz.underlying210 hi hi0 hi1 hi2 rfl (by decide) (.slice (some ⟨g,0,none⟩) (fs.length+1) cap) (fs.length+1) _ rfl (HO2.out.alloc _) ⟨wz.heap.size,0,none⟩ 1 1 [.slice p1 s1.args.length q1,.slice p2 s2.args.length q2] rfl rfl (ac3 _ _ _ _ _ rfl) (by simp[Value.oneCell']) (by unfold maxLen;omega) (by omega) (by have:=HSZ2.out;simp;omega) ?_;intro v' w2 hown2 hgrow2 _;have HO3:=ae hown2;have HG3:=ae hgrow2;clear hown2 hgrow2;go_wp2
           go_roundg (ac2 ((s1.args,s2.args)::(xs.drop (j+1),ys.drop (j+1))::fs))
           case measure=>rw[HG.out];exact abw HS1'.out fs
           case rel=>exact afN HO2.out HVL.out HF2.out (tail_nil HA1.out (by omega)) (aen HA2.out hcj2 (by omega)) HSA1.out HSA2.out HLN.out HDL.out HBX.out HB2'.out HS1'.out HS2'.out HND.out HR.out (HBL.out.trans (HBQ.out.mono (by rw[HS1.out];omega))) (by have:=HSZ2.out;omega) (by omega) HO3.out HG3.out (by have:=abw (ys:=ys) (zs:=s2.args) (bs:=ys.drop (j+1)) HS1'.out fs;omega)
         ·by_cases hcj2:c2=j+1
          ·subst hcj2
           go_region
           obtain⟨hO2,hB2⟩:=ab9 HO.out HVL.out (HBQ.out.trans (HBX.out.mono HBQ.out.size)) (.slice (some ⟨b1,o1+(j+1)*2,none⟩) (xs.length-(j+1)) (c1-(j+1))) (.slice (some ⟨b2,o2,none⟩) 0 0);have hy1:(((wx.setCell ⟨g,fs.length*2,none⟩ (.slice (some ⟨b1,o1+(j+1)*2,none⟩) (xs.length-(j+1)) (c1-(j+1)))).setCell ⟨g,fs.length*2+1,none⟩ (.slice (some ⟨b2,o2,none⟩) 0 0)).drew).cell? ⟨wr.heap.size,1,none⟩=some (.slice p1 s1.args.length q1):=(aq (a:=⟨wr.heap.size,1,none⟩) ((an _ _ _ _ (by simp;omega)).trans (an _ _ _ _ (by simp;omega)))).trans hx1;have hy2:(((wx.setCell ⟨g,fs.length*2,none⟩ (.slice (some ⟨b1,o1+(j+1)*2,none⟩) (xs.length-(j+1)) (c1-(j+1)))).setCell ⟨g,fs.length*2+1,none⟩ (.slice (some ⟨b2,o2,none⟩) 0 0)).drew).cell? ⟨wr.heap.size+1,1,none⟩=some (.slice p2 s2.args.length q2):=(aq (a:=⟨wr.heap.size+1,1,none⟩) ((an _ _ _ _ (by simp;omega)).trans (an _ _ _ _ (by simp;omega)))).trans hx2;have hsz2:(((wx.setCell ⟨g,fs.length*2,none⟩ (.slice (some ⟨b1,o1+(j+1)*2,none⟩) (xs.length-(j+1)) (c1-(j+1)))).setCell ⟨g,fs.length*2+1,none⟩ (.slice (some ⟨b2,o2,none⟩) 0 0)).drew).heap.size=wr.heap.size+2:=by have:=HSX.out;simpa using this
           generalize ((wx.setCell ⟨g,fs.length*2,none⟩ (.slice (some ⟨b1,o1+(j+1)*2,none⟩) (xs.length-(j+1)) (c1-(j+1)))).setCell ⟨g,fs.length*2+1,none⟩ (.slice (some ⟨b2,o2,none⟩) 0 0)).drew=wz at hO2 hB2 hy1 hy2 hsz2 ⊢;have HO2:=ae hO2;have HB2':=ae hB2;have HSZ2:=ae hsz2;clear hO2 hB2 hsz2 k1 k2 k3 k4 k5 k6 hx1 hx2
           go_wp2_with (at_builtin;refine aaG ?_)
           refine ae ?_;refine wpList_append_own _ rfl _ _ 210 rfl (w.heap.size+4) 243 i0 (.agg #[.slice none 0 0,.slice none 0 0]) 2 48 Tryz.underlying210 hi hi0 hi1 hi2 rfl (by decide) (.slice (some ⟨g,0,none⟩) (fs.length+1) cap) (fs.length+1) _ rfl (HO2.out.alloc _) ⟨wz.heap.size,0,none⟩ 1 1 [.slice p1 s1.args.length q1,.slice p2 s2.args.length q2] rfl rfl (ac3 _ _ _ _ _ rfl) (by simp[Value.oneCell']) (by unfold maxLen;omega) (by omega) (by have:=HSZ2.out;simp;omega) ?_;intro v' w2 hown2 hgrow2 _;have HO3:=ae hown2;have HG3:=ae hgrow2;clear hown2 hgrow2;go_wp2
           go_roundg (ac2 ((s1.args,s2.args)::(xs.drop (j+1),ys.drop (j+1))::fs))
           case measure=>rw[HG.out];exact abw HS1'.out fs
           case rel=>exact afN HO2.out HVL.out HF2.out (aen HA1.out hcj1 (by omega)) (tail_nil HA2.out (by omega)) HSA1.out HSA2.out HLN.out HDL.out HBX.out HB2'.out HS1'.out HS2'.out HND.out HR.out (HBL.out.trans (HBQ.out.mono (by rw[HS1.out];omega))) (by have:=HSZ2.out;omega) (by omega) HO3.out HG3.out (by have:=abw (ys:=ys) (zs:=s2.args) (bs:=ys.drop (j+1)) HS1'.out fs;omega)
          ·go_region
           obtain⟨hO2,hB2⟩:=ab9 HO.out HVL.out (HBQ.out.trans (HBX.out.mono HBQ.out.size)) (.slice (some ⟨b1,o1+(j+1)*2,none⟩) (xs.length-(j+1)) (c1-(j+1))) (.slice (some ⟨b2,o2+(j+1)*2,none⟩) (ys.length-(j+1)) (c2-(j+1)));have hy1:(((wx.setCell ⟨g,fs.length*2,none⟩ (.slice (some ⟨b1,o1+(j+1)*2,none⟩) (xs.length-(j+1)) (c1-(j+1)))).setCell ⟨g,fs.length*2+1,none⟩ (.slice (some ⟨b2,o2+(j+1)*2,none⟩) (ys.length-(j+1)) (c2-(j+1)))).drew).cell? ⟨wr.heap.size,1,none⟩=some (.slice p1 s1.args.length q1):=(aq (a:=⟨wr.heap.size,1,none⟩) ((an _ _ _ _ (by simp;omega)).trans (an _ _ _ _ (by simp;omega)))).trans hx1;have hy2:(((wx.setCell ⟨g,fs.length*2,none⟩ (.slice (some ⟨b1,o1+(j+1)*2,none⟩) (xs.length-(j+1)) (c1-(j+1)))).setCell ⟨g,fs.length*2+1,none⟩ (.slice (some ⟨b2,o2+(j+1)*2,none⟩) (ys.length-(j+1)) (c2-(j+1)))).drew).cell? ⟨wr.heap.size+1,1,none⟩=some (.slice p2 s2.args.length q2):=(aq (a:=⟨wr.heap.size+1,1,none⟩) ((an _ _ _ _ (by simp;omega)).trans (an _ _ _ _ (by simp;omega)))).trans hx2;have hsz2:(((wx.setCell ⟨g,fs.length*2,none⟩ (.slice (some ⟨b1,o1+(j+1)*2,none⟩) (xs.length-(j+1)) (c1-(j+1)))).setCell ⟨g,fs.length*2+1,none⟩ (.slice (some ⟨b2,o2+(j+1)*2,none⟩) (ys.length-(j+1)) (c2-(j+1)))).drew).heap.size=wr.heap.size+2:=by have:=HSX.out;simpa using this
           generalize ((wx.setCell ⟨g,fs.length*2,none⟩ (.slice (some ⟨b1,o1+(j+1)*2,none⟩) (xs.length-(j+1)) (c1-(j+1)))).setCell ⟨g,fs.length*2+1,none⟩ (.slice (some ⟨b2,o2+(j+1)*2,none⟩) (ys.length-(j+1)) (c2-(j+1)))).drew=wz at hO2 hB2 hy1 hy2 hsz2 ⊢;have HO2:=ae hO2;have HB2':=ae hB2;have HSZ2:=ae hsz2;clear hO2 hB2 hsz2 k1 k2 k3 k4 k5 k6 hx1 hx2
           go_wp2_with (at_builtin;refine aaG ?_)
           refine ae ?_;refine wpList_append_own _ rfl _ _ 210 rfl (w.heap.size+4) 243 i0 (.agg #[.slice none 0 0,.slice none 0 0]) 2 48 Tryz.underlying210 hi hi0 hi1 hi2 rfl (by decide) (.slice (some ⟨g,0,none⟩) (fs.length+1) cap) (fs.length+1) _ rfl (HO2.out.alloc _) ⟨wz.heap.size,0,none⟩ 1 1 [.slice p1 s1.args.length q1,.slice p2 s2.args.length q2] rfl rfl (ac3 _ _ _ _ _ rfl) (by simp[Value.oneCell']) (by unfold maxLen;omega) (by omega) (by have:=HSZ2.out;simp;omega) ?_;intro v' w2 hown2 hgrow2 _;have HO3:=ae hown2;have HG3:=ae hgrow2;clear hown2 hgrow2;go_wp2
           go_roundg (ac2 ((s1.args,s2.args)::(xs.drop (j+1),ys.drop (j+1))::fs))
           case measure=>rw[HG.out];exact abw HS1'.out fs
           case rel=>exact afN HO2.out HVL.out HF2.out (aen HA1.out hcj1 (by omega)) (aen HA2.out hcj2 (by omega)) HSA1.out HSA2.out HLN.out HDL.out HBX.out HB2'.out HS1'.out HS2'.out HND.out HR.out (HBL.out.trans (HBQ.out.mono (by rw[HS1.out];omega))) (by have:=HSZ2.out;omega) (by omega) HO3.out HG3.out (by have:=abw (ys:=ys) (zs:=s2.args) (bs:=ys.drop (j+1)) HS1'.out fs;omega)
       ·have hll1:((s1.args.length:Int)==(s2.args.length:Int))=false:=by simp;omega
        have hll2:((s1.args.length:Int) != (s2.args.length:Int))=true:=by simp;omega
        have hll3:(s1.args.length==s2.args.length)=false:=by simp;omega
        have hll4:(s1.args.length != s2.args.length)=true:=by simp;omega
        have hcj1:¬c1=j:=by omega
        have hcj2:¬c2=j:=by omega
        go_wp2;generalize hwx:(wr.alloc (aaa s1.head p1 s1.args.length q1)).alloc (aaa s2.head p2 s2.args.length q2)=wx;have hbx:Below wr.heap.size wr wx:=by rw[←hwx];exact((ag _ _).alloc (af _) _).alloc (by simp) _
        clear hwx;have k1:=(hbx.cell (p:=⟨Bp,0,none⟩) hp1).trans hb1;have k2:=(hbx.cell (p:=⟨Bp,1,none⟩) hp1).trans hb2;have k3:=(hbx.cell (p:=⟨g,fs.length*2,none⟩) hg1).trans hgc1;have k4:=(hbx.cell (p:=⟨g,fs.length*2+1,none⟩) hg1).trans hgc2;have k5:=(hbx.frozen (p:=⟨g,fs.length*2,none⟩) hg1).trans hfz1;have k6:=(hbx.frozen (p:=⟨g,fs.length*2+1,none⟩) hg1).trans hfz2;have HBX:=ae hbx;clear hbx
        go_region
        go_wp2;rw[Exit.noGoto_ret];go_ret;exact amD HO.out HVL.out (HBQ.out.trans (HBX.out.mono HBQ.out.size)) HF.out HS1'.out HS2'.out (.inr hdl) HR.out HBL.out (by rw[HS1.out];omega)
      ·have hne1:(s1.head==s2.head)=false:=by simpa using hdh
       have hne2:(s1.head != s2.head)=true:=by simpa using hdh
       have hcj1:¬c1=j:=by omega
       have hcj2:¬c2=j:=by omega
       go_wp2;generalize hwx:(wr.alloc (aaa s1.head p1 s1.args.length q1)).alloc (aaa s2.head p2 s2.args.length q2)=wx;have hbx:Below wr.heap.size wr wx:=by rw[←hwx];exact((ag _ _).alloc (af _) _).alloc (by simp) _
       clear hwx;have k1:=(hbx.cell (p:=⟨Bp,0,none⟩) hp1).trans hb1;have k2:=(hbx.cell (p:=⟨Bp,1,none⟩) hp1).trans hb2;have k3:=(hbx.cell (p:=⟨g,fs.length*2,none⟩) hg1).trans hgc1;have k4:=(hbx.cell (p:=⟨g,fs.length*2+1,none⟩) hg1).trans hgc2;have k5:=(hbx.frozen (p:=⟨g,fs.length*2,none⟩) hg1).trans hfz1;have k6:=(hbx.frozen (p:=⟨g,fs.length*2+1,none⟩) hg1).trans hfz2;have HBX:=ae hbx;clear hbx
       go_region
       go_wp2;rw[Exit.noGoto_ret];go_ret;exact amD HO.out HVL.out (HBQ.out.trans (HBX.out.mono HBQ.out.size)) HF.out HS1'.out HS2'.out (.inl hdh) HR.out HBL.out (by rw[HS1.out];omega)
     ·have hjl:j=xs.length:=by omega
      have hcap:=ad1 HO.out;unfold maxLen at hcap;obtain⟨hcap1,hcap2⟩:=hcap;go_wp2
      go_roundg (ac2 fs)
      case measure=>rw[HG.out];simp only[ac2];omega
      case rel=>exact atN HO.out HVL.out HF.out HBQ.out (by rw[HS1.out];omega) hjl HR.out HBL.out (by simp only[ac2] at hN;omega) (by rw[HS1.out];omega)
def ac4(x y:T):Bool:=(resume [([x],[y])]).isNone
theorem aeo(x y:T):ac4 x y=true↔x=y:=by rw[ac4,Option.isNone_iff_eq_none,adp]
theorem aep(x y:T)(hx:x.size<=1000000000000)(aM:Nat)(a:Option Addr)(c:Nat)(a':Option Addr)(c':Nat)(w:World)(hn:aM<=w.heap.size)(hxw:(Lit.int .i64 x.head).wf=true)(hyw:(Lit.int .i64 y.head).wf=true)(hA:aab aM w x.args a c)(hB:aab aM w y.args a' c'):
 Calls Tryz.prog 140 #[tm x.head a x.args.length c,tm y.head a' y.args.length c'] w fun e w'=>e= .returned (.bool (ac4 x y))/\Below w.heap.size w w':=by
 have HA:=ae (hA.mono hn);have HB:=ae (hB.mono hn);clear hA hB hn aM;go_enter Tryz.func140,Tryz.ntmps140
 go_wp2_with fail
 have hb:Below w.heap.size w ((w.alloc (aaa x.head a x.args.length c)).alloc (aaa y.head a' y.args.length c')):=((ag _ w).alloc (af _) _).alloc (by simp) _;refine(akg x y hx w.heap.size a c a' c' _ (by simp;omega) hxw hyw (HA.out.below hb) (HB.out.below hb)).mono ?_;rintro e w2 ⟨v,fs,vs,rfl,hO,_,hr,hb2⟩;have HB2:=ae (hb.trans (hb2.mono (by simp;omega)));have HR:=ae hr;clear hb hb2 hr
 have hv:∃a1 c1,v= .slice a1 fs.length c1:=by
  rcases hO.2 with⟨h,h0⟩|⟨g,cap,cur,h,_⟩
  ·exact⟨_,_,by rw[h,h0]⟩
  ·exact⟨_,_,h⟩
 obtain⟨a1,c1,rfl⟩:=hv;clear hO;go_wp2;go_ret;refine⟨?_,HB2.out⟩;have h:=HR.out;cases fs with
 |nil=>simp[ac4,h]
 |cons f fs=>
  rw[if_neg (by simp)] at h;rw[ac4,h];simp;omega
theorem agr(a:Int)(w:World):Calls Tryz.prog 250 #[.int .i64 a] w fun e w'=>e= .returned (.bool false)/\w'=w:=by
 go_enter Tryz.func250,Tryz.ntmps250;go_wp2;go_ret;exact⟨by simp,rfl⟩
theorem abQ(a b:Int)(w:World):Calls Tryz.prog 245 #[.int .i64 a,.int .i64 b] w fun e w'=>e= .returned (.int .i64 (ord a b))/\w'=w:=by
 by_cases h1:a<b
 ·go_enter Tryz.func245,Tryz.ntmps245
  go_wp2_with (go_at_call 250;refine(agr _ _).mono ?_;rintro e w' ⟨rfl,rfl⟩)
  go_ret;exact⟨by rw[ord,if_pos h1];rfl,rfl⟩
 ·by_cases h2:b<a
  ·go_enter Tryz.func245,Tryz.ntmps245
   go_wp2_with (go_at_call 250;refine(agr _ _).mono ?_;rintro e w' ⟨rfl,rfl⟩)
   go_ret;exact⟨by rw[ord,if_neg (by omega),if_pos h2];rfl,rfl⟩
  ·go_enter Tryz.func245,Tryz.ntmps245
   go_wp2_with (go_at_call 250;refine(agr _ _).mono ?_;rintro e w' ⟨rfl,rfl⟩)
   go_ret;exact⟨by rw[ord,if_neg (by omega),if_neg (by omega)];rfl,rfl⟩
def orL:List Int->Int
 |[]=>0
 |z::zs=>if z≠0 then z else orL zs
def OrI(zs:List Int)(i:Value):Prop:=∃k:Nat,k<=zs.length/\i= .int .i64 k/\orL (zs.drop k)=orL zs
theorem asZ(g cap:Nat)(zs:List Int)(w:World)(hl:zs.length<=100)(hc:∀(j:Nat) (z:Int),zs[j]? =some z->w.cell? ⟨g,j,none⟩=some (.int .i64 z)):
 Calls Tryz.prog 244 #[.slice (some ⟨g,0,none⟩) zs.length cap] w fun e w'=>e= .returned (.int .i64 (orL zs))/\w'=w:=by
 have HC:=ae hc;clear hc;go_enter Tryz.func244,Tryz.ntmps244;go_wp2
 go_loop [8] (fun i=>OrI zs i) (fun i=>zs.length-(intOf i).toNat)
 case atStart=>exact⟨0,Nat.zero_le _,rfl,rfl⟩
 case round=>
  obtain⟨k,hk,rfl,ho⟩:=hrel;have HO:=ae ho;clear ho;by_cases hlt:k<zs.length
  ·have h1:w.cell? ⟨g,k,none⟩=some (.int .i64 zs[k]):=HC.out k _ (ai hlt);have hd:zs.drop k=zs[k]::zs.drop (k+1):=aD hlt;have HO2:=ae (HO.out.symm.trans (by rw[hd,orL]));clear hd;generalize zs[k]=z at*;by_cases hz:z=0
   ·have hz1:(z==0)=true:=by simp[hz]
    have hz2:(z != 0)=false:=by simp[hz]
    have HZ:=ae hz;clear hz;go_wp2
    go_round
    case rel=>exact⟨k+1,by omega,by go_num,by rw[HO2.out,if_neg (by simpa using HZ.out)]⟩
    case measure=>simp[intOf];omega
   ·have hz1:(z==0)=false:=by simpa using hz
    have hz2:(z != 0)=true:=by simpa using hz
    go_wp2;go_ret;exact⟨by rw[HO2.out,if_pos hz];rfl,rfl⟩
  ·go_wp2;go_ret;refine⟨?_,rfl⟩;rw[←HO.out,List.drop_of_length_le (by omega)];rfl
theorem atO(g cap:Nat)(a b c:Int)(w:World)(h0:w.cell? ⟨g,0,none⟩=some (.int .i64 a))(h1:w.cell? ⟨g,1,none⟩=some (.int .i64 b))(h2:w.cell? ⟨g,2,none⟩=some (.int .i64 c)):
 Calls Tryz.prog 244 #[.slice (some ⟨g,0,none⟩) 3 cap] w fun e w'=>e= .returned (.int .i64 (orL [a,b,c]))/\w'=w:=
 asZ g cap [a,b,c] w (by simp) (fun j z hz=>by
  match j,hz with
  |0,hz=>simp at hz;subst hz;exact h0
  |1,hz=>simp at hz;subst hz;exact h1
  |2,hz=>simp at hz;subst hz;exact h2
  |j+3,hz=>simp at hz)
theorem atP(g cap:Nat)(a b:Int)(w:World)(h0:w.cell? ⟨g,0,none⟩=some (.int .i64 a))(h1:w.cell? ⟨g,1,none⟩=some (.int .i64 b)):
 Calls Tryz.prog 244 #[.slice (some ⟨g,0,none⟩) 2 cap] w fun e w'=>e= .returned (.int .i64 (orL [a,b]))/\w'=w:=
 asZ g cap [a,b] w (by simp) (fun j z hz=>by
  match j,hz with
  |0,hz=>simp at hz;subst hz;exact h0
  |1,hz=>simp at hz;subst hz;exact h1
  |j+2,hz=>simp at hz)
def axk(ts:List T)(w:World)(n i:Value)(wr:World):Prop:=∃k:Nat,k<=ts.length/\i= .int .i64 k/\n= .int .i64 (T.sizes (ts.take k):Nat)/\Below w.heap.size w wr
theorem aeq(ts:List T)(hts:T.sizes ts<=1000000000000)(aM:Nat)(a:Option Addr)(c:Nat)(w:World)(hn:aM<=w.heap.size)(hA:aab aM w ts a c):
 Calls Tryz.prog 247 #[.slice a ts.length c] w fun e w'=>e= .returned (.int .i64 (T.sizes ts:Nat))/\Below w.heap.size w w':=by
 have hlc:ts.length<=c/\c<=maxLen:=⟨hA.1,hA.2.1⟩;unfold maxLen at hlc;obtain⟨hl1,hl2⟩:=hlc;have HA:=ae (hA.mono hn);clear hA hn aM;go_enter Tryz.func247,Tryz.ntmps247;go_wp2
 go_loopw [3,8] (fun n i wr=>axk ts w n i wr) (fun _ i _=>ts.length-(intOf i).toNat)
 case atStart=>exact⟨0,Nat.zero_le _,rfl,by simp[T.sizes],ag _ _⟩
 case round=>
  obtain⟨k,hk,rfl,rfl,hB⟩:=hrel;have hsp:=T.sizes_append (ts.take k) (ts.drop k);rw[List.take_append_drop] at hsp;generalize hm':T.sizes (ts.take k)=m at*;have hmb:m<=1000000000000:=by omega
  have HM:=ae hm';have HB:=ae hB;clear hm' hB hsp;by_cases hlt:k<ts.length
  ·obtain⟨b,o,s,a',c',rfl,hbn,hs,hwf,hc1,hc2,hA'⟩:=(HA.out.below HB.out).elem hlt;have hsb:s.size<=1000000000000:=by have:=T.size_lt_of_mem hs;omega
   have HSS:=ae hs;have HA':=ae hA';have HW:=ae hwf;have hsz:w.heap.size<=wr.heap.size:=HB.out.size;clear hs hA' hwf
   go_wp2_with fail
   refine(aiZ s hsb w.heap.size a' c' _ (by simp;omega) HW.out (HA'.out.below ((ag _ _).alloc hsz _))).mono ?_;rintro e w2 ⟨rfl,hB2⟩;generalize hr:s.size=r at*;have HR:=ae hr;have HB2:=ae hB2;clear hr hB2;go_wp2
   go_roundw
   case rel=>
    refine⟨k+1,by omega,by go_num,?_,HB.out.trans (((ag _ wr).alloc hsz _).trans (HB2.out.mono (by simp;omega)))⟩;have h1:=HM.out;have h2:=HR.out;have h3:=T.sizes_take HSS.out;rw[show((m:Int)+(r:Int))=((m+r:Nat):Int) from by omega];exact congrArg (fun x:Nat=>Value.int .i64 (x:Int)) (by omega)
   case measure=>simp[intOf];omega
  ·go_wp2;go_ret;refine⟨?_,HB.out⟩;have h1:=HM.out;rw[List.take_of_length_le (by omega)] at h1;exact congrArg (fun x:Nat=>Ending.returned (.int .i64 (x:Int))) (by omega)
theorem akh(a:Option Addr)(k c:Nat)(w:World):
 Calls Tryz.prog 246 #[.slice a k c] w fun e w'=>e= .returned (.func (.func 251) #[] #[.pointer (some ⟨w.heap.size,0,none⟩)])/\w'=w.alloc (.cells #[.slice a k c] 210):=by
 go_enter Tryz.func246,Tryz.ntmps246;go_wp2;go_ret;exact⟨rfl,rfl⟩
open Go.Shelf
attribute [local go_sem] Oper.semAt_some
def alG(vs:List (Value×Value))(pre:List (Value×Value))(x:Value×Value)(as':Array Value)(_W:World):Prop:=
 pre++[x]<+:vs/\as'=#[.int .i64 ((vs.length:Int)-1-pre.length),.agg #[x.1,x.2]]
def ags(Bs g cap:Nat)(vs:List (Value×Value))(W:World):Prop:=
 W.cell? ⟨Bs,0,none⟩=some (.slice (some ⟨g,0,none⟩) vs.length cap)/\∀j,j<vs.length*2->W.cell? ⟨g,j,none⟩=(aeU vs)[j]?
theorem ao6:∀(vs:List (Value×Value)) (k:Nat) (x:Value×Value),vs[k]? =some x->(aeU vs)[(vs.length-1-k)*2]? =some x.1/\(aeU vs)[(vs.length-1-k)*2+1]? =some x.2
 |[],_,_,h=>by simp at h
 |v::vs,0,x,h=>by
  simp at h;subst h
  simpa using And.intro (afL v vs) (afM v vs)
 |v::vs,k+1,x,h=>by
  have h':vs[k]? =some x:=by simpa using h
  obtain⟨h1,h2⟩:=ao6 vs k x h';have hk:k<vs.length:=(ah.1 h').1;rw[show(v::vs).length-1-(k+1)=vs.length-1-k from by simp;omega,aeU];rw[List.getElem?_append_left (by rw[aaS];omega),List.getElem?_append_left (by rw[aaS];omega)];exact⟨h1,h2⟩
def ary(vs:List (Value×Value))(J Jx:List (Value×Value)->World->Prop)(e:Ending)(W':World):Prop:=
 (∃v,e= .returned v)/\((∃xs,xs=vs/\J xs W')\/(∃pre,pre<+:vs/\Jx pre W'))
def awO(vs:List (Value×Value))(J:List (Value×Value)->World->Prop)(i:Value)(wr:World):Prop:=∃k:Nat,k<=vs.length/\i= .int .i64 ((vs.length:Int)-1-k)/\J (vs.take k) wr
theorem arz(F:Fence)(n:Nat)(hF:F.fn 251)(hro:F.round=none)(hn:1<=n)(l Bs aM g cap:Nat)(vs:List (Value×Value))(hvs:vs.length<=9223372036854775807)(J Jx:List (Value×Value)->World->Prop)(W:World)
 (hinv:∀pre W1,J pre W1->ags Bs g cap vs W1) (hJs:aaC W.heap.size J)
 (hY:∀pre x as' W1,J pre W1->W.heap.size<=W1.heap.size->alG vs pre x as' W1->YieldAt F (n-1) Tryz.prog l as' W1 fun e W'=>
  (e= .returned (.bool true)/\J (pre++[x]) W'/\Kept aM W.heap.size W1 W')\/(e= .returned (.bool false)/\Jx (pre++[x]) W'))
 (h0:J [] W):
 CallsIn F n Tryz.prog 251 #[.func (.yield l) #[] #[],.pointer (some ⟨Bs,0,none⟩)] W (ary vs J Jx):=by
 have hi0:=(hinv _ _ h0).1;have HY:=ae hY;have HI:=ae hinv;clear hY hinv hJs;refine callsIn_of_wp Tryz.func251 rfl hF ?_ hro;simp only[Tryz.ntmps251,List.size_toArray,List.length_cons,List.length_nil,Nat.reduceAdd,Nat.reduceSub,Array.replicate_succ,Array.replicate_zero,List.push_toArray,List.append_toArray,List.nil_append,List.cons_append]
 gi_wp2
 gi_loopw [3] (fun i wr=>awO vs J i wr/\W.heap.size<=wr.heap.size) (fun i _=>((intOf i)+1).toNat)
 case atStart=>exact⟨⟨0,Nat.zero_le _,by simp,by simpa using h0⟩,af _⟩
 case round=>
  obtain⟨⟨k,hk,rfl,hj⟩,hsz⟩:=hrel;have hv:=HI.out _ _ hj;have HJP:=ae hj;clear hj;by_cases hlt:k<vs.length
  ·have hx:=ai hlt;obtain⟨p1,p2⟩:=ao6 vs k _ hx;have c0:=hv.1;have c1:wr.cell? ⟨g,(vs.length-1-k)*2,none⟩=some vs[k].1:=(hv.2 _ (by omega)).trans p1;have c2:wr.cell? ⟨g,(vs.length-1-k)*2+1,none⟩=some vs[k].2:=(hv.2 _ (by omega)).trans p2;have hpre:vs.take k++[vs[k]]=vs.take (k+1):=by rw[aI hlt]
   have hmay:alG vs (vs.take k) vs[k] #[.int .i64 ((vs.length:Int)-1-k),.agg #[vs[k].1,vs[k].2]] wr:=⟨by rw[hpre];exact List.take_prefix _ _,by simp;omega⟩;obtain⟨fn,tmps,assign,body,hy,hR⟩:=HY.out _ _ _ wr HJP.out hsz hmay;rw[hpre] at hR;clear hmay hpre p1 p2 hx hv;obtain⟨q,hq⟩:∃q:Nat,q=vs.length-1-k:=⟨_,rfl⟩;have hq':((vs.length:Int)-1-k)=(q:Int):=by omega
   rw[←hq] at c1 c2;rw[hq'] at hy ⊢;have HQ:=ae hq;have hql:q<vs.length:=by omega
   generalize vs[k].1=v1 at*;generalize vs[k].2=v2 at*;clear hq hq'
   gi_wp2
   refine hR.mono ?_;rintro e W3 (⟨rfl,hJ3,hk3⟩|⟨rfl,hJx3⟩)
   ·have hs3:wr.heap.size<=W3.heap.size:=hk3.1.size;have HJ3:=ae hJ3;clear hR hy hJ3 hk3
    gi_wp2
    refine⟨⟨⟨k+1,by omega,?_,HJ3.out⟩,by omega⟩,?_⟩
    ·have:=HQ.out;exact congrArg (Value.int .i64) (by omega)
    ·simp[intOf]
   ·gi_wp2
    refine bodyPost_ret (results_none rfl _ _ _) rfl ?_;exact⟨⟨_,rfl⟩,.inr ⟨_,List.take_prefix _ _,hJx3⟩⟩
  ·have hkl:k=vs.length:=by omega
   have hneg:¬(0:Int)<=(vs.length:Int)-1-(k:Int):=by omega
   gi_wp2
   go_end0
   refine⟨⟨_,rfl⟩,.inl ⟨_,rfl,?_⟩⟩;have h:=HJP.out;rw[hkl,List.take_length] at h;exact h
theorem arA(F:Fence)(n:Nat)(hF:F.fn 251)(hro:F.round=none)(hn:1<=n)(Bs aM g cap:Nat)(vs:List (Value×Value))(hvs:vs.length<=9223372036854775807)(w:World):
 awK F n Tryz.prog 251 #[.pointer (some ⟨Bs,0,none⟩)] aM (ags Bs g cap vs) (alG vs) (fun xs=>xs=vs) (fun pre=>pre<+:vs) w:=fun l J Jx W _ hJ _ hinv hY h0=>
 arz F n hF hro hn l Bs aM g cap vs hvs J Jx W hinv hJ hY h0
end Go.Proofs.YtabfapijgfjflaaGreat
