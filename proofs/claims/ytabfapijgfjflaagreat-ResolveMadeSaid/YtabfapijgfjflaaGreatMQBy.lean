import Derived.Test.YtabfapijgfjflaaGreatMQBp
import Derived.Test.YtabfapijgfjflaaGreatMQBw
import Derived.Test.YtabfapijgfjflaaGreatMQBx
import Derived.Deep.LoopGhost
import Derived.Laws.EntriesVeiled
import Derived.Test.YtabfapijgfjflaaGreatMQBs
import Derived.Test.YtabfapijgfjflaaGreatMQBt
import Derived.Test.YtabfapijgfjflaaGreatMQBm
import Derived.Test.YtabfapijgfjflaaGreatMQBa
import Derived.Test.YtabfapijgfjflaaGreatMQBd
import Derived.Test.YtabfapijgfjflaaGreatMQBb
import Derived.Test.YtabfapijgfjflaaGreatMQBo
import Derived.Deep.RegionHeld3
import Derived.Deep.CutRange
import Derived.Deep.AppendLies
import Derived.StillTailTactics
import Derived.Test.YtabfapijgfjflaaGreatRows
import Derived.ProofKit
import Derived.OpenShut
import Derived.Carry
import Derived.Lib.SmallJoins
import Derived.Test.YtabfapijgfjflaaGreatMQBc
import Derived.ChangeMaps5
import Derived.Test.YtabfapijgfjflaaGreatMAl
set_option linter.unusedVariables false
set_option linter.unusedSimpArgs false
set_option maxRecDepth 100000
set_option maxHeartbeats 8000000
namespace Go.Proofs.YtabfapijgfjflaaGreat
open Go.RowKit
theorem akQ{g:Sg}{l r:T}(h:abn g l r=0):ac0 g l= .tuple #[.int .i64 (wtT g l),.int .i64 0]/\ac0 g r= .tuple #[.int .i64 (wtT g r),.int .i64 0]/\1<=wtT g l/\wtT g l<=400000/\1<=wtT g r/\wtT g r<=400000:=by
 obtain⟨h1,h2⟩:=abq h;have hr:=ah0 h1;exact⟨by unfold ac0;rw[if_pos h1],by unfold ac0;rw[if_pos h2],asU hr (afP h1),avz hr (afP h1),asU hr (afP h2),avz hr (afP h2)⟩
theorem aoj(g:Sg)(x:LV)(hx:x.sz)(he:abn g x.l x.r=0)(aM:Nat)(ga:Option Addr)(gc:Nat)(w:World)(hn:aM<=w.heap.size)(hG:aaX aM w g ga gc)(hX:aa1 aM w x):
 Calls Tryz.prog 130 #[.slice ga g.length gc,x.v] w fun e w'=>e= .returned (.int .i64 (wtB g x.t3))/\Below w.heap.size w w':=by
 obtain⟨e1,e2,b1,b2,b3,b4⟩:=akQ he;have HE:=ae (show wtB g x.t3=wtT g x.l+wtT g x.r from rfl)
 have C1:=ae (fun(W:World) (hW:Below w.heap.size w W)=>(by
  have h:=ait g x.l hx.1 aM ga gc x.pa x.ca W (aE hn hW.size) (hG.below (hW.mono hn)) hX.lw (hX.below (hW.mono hn)).la;rw[e1] at h;exact h:Calls Tryz.prog 173 #[.slice ga g.length gc,tm x.l.head x.pa x.l.args.length x.ca] W fun e w'=>e= .returned (.tuple #[.int .i64 (wtT g x.l),.int .i64 0])/\Below W.heap.size W w'))
 have C2:=ae (fun(W:World) (hW:Below w.heap.size w W)=>(by
  have h:=ait g x.r hx.2 aM ga gc x.pb x.cb W (aE hn hW.size) (hG.below (hW.mono hn)) hX.rw (hX.below (hW.mono hn)).ra;rw[e2] at h;exact h:Calls Tryz.prog 173 #[.slice ga g.length gc,tm x.r.head x.pb x.r.args.length x.cb] W fun e w'=>e= .returned (.tuple #[.int .i64 (wtT g x.r),.int .i64 0])/\Below W.heap.size W w'))
 obtain⟨W1,hW1⟩:∃W1,w.alloc x.obj=W1:=⟨_,rfl⟩;have hF1:Below w.heap.size w W1:=by rw[←hW1];exact(ag _ w).alloc (af _) _
 have L:=ae (show aai (Lc w.heap.size x) W1 from by rw[←hW1];exact abS w x);have HF1:=ae hF1;generalize wtT g x.l=p at HE C1 b1 b2;generalize wtT g x.r=q at HE C2 b3 b4;have hs1: -9223372036854775808<=p+q:=by omega
 have hs2:p+q<=9223372036854775807:=by omega
 clear hG hX hF1 e1 e2 he hx;obtain⟨l0,l1,l2,l3,l4⟩:=L.out W1 (ag _ _);go_enter Tryz.func130,Tryz.ntmps130
 go_wp2_with fail
 clear l0 l1 l2 l3 l4 hW1;refine(C1.out W1 HF1.out).mono ?_;rintro e w2 ⟨rfl,hb⟩;have HB2:=ae (HF1.out.trans (hb.mono HF1.out.size));obtain⟨l0,l1,l2,l3,l4⟩:=L.out w2 hb;clear hb
 go_wp2_with fail
 clear l0 l1 l2 l3 l4;refine(C2.out w2 HB2.out).mono ?_;rintro e w3 ⟨rfl,hb⟩;have HB3:=ae (HB2.out.trans (hb.mono HB2.out.size));clear hb;go_wp2;go_ret;exact⟨by rw[HE.out];rfl,HB3.out⟩
structure NxF (Bi:Nat) (j:Int) (W wr:World):Prop where
 b:Below Bi W wr
 s:wr.heap.size=W.heap.size
 c:wr.cell? ⟨Bi,0,none⟩=some (.int .i64 j)
 f:wr.frozen? ⟨Bi,0,none⟩=false
 o:∀b,b≠Bi->wr.heap[b]? =W.heap[b]?
theorem NxF.set{Bi:Nat}{j:Int}{W wr:World}(h:NxF Bi j W wr)(k:Int):NxF Bi k W (wr.setCell ⟨Bi,0,none⟩ (.int .i64 k)):=
 ⟨h.b.setCell (p:=⟨Bi,0,none⟩) (af _) _,by simp[h.s],World.cell?_setCell_same' _ _ _ (by rw[h.c];rfl),by rw[World.frozen?_setCell];exact h.f,fun b hb=>(an _ _ _ _ hb).trans (h.o b hb)⟩
def av1(C:List Lt3)(j0 j:Nat):Prop:=∀q,j0<=q->q<j->(C.getD q z3).neg=false
def NxI(C:List Lt3)(Bi j0:Nat)(W:World)(gk:Nat)(wr:World):Prop:=∃j:Nat,j0<=j/\j<=C.length/\gk=C.length-j/\av1 C j0 j/\NxF Bi j W wr
def aqe(C:List Lt3)(Bi j0:Nat)(W:World)(e:Ending)(w':World):Prop:=∃j:Nat,j0<=j/\j<=C.length/\av1 C j0 j/\NxF Bi j W w'/\
 ((j<C.length/\(C.getD j z3).neg=true/\e= .returned (.tuple #[.int .i64 j,.bool true]))\/(j=C.length/\e= .returned (.tuple #[.int .i64 0,.bool false])))
theorem asi(P:List LV)(aM Bi Bc j0:Nat)(v:Int)(hv:v+1=j0)(hj:j0<=P.length)(a:Option Addr)(c:Nat)(W:World)(hn:aM<=Bi)(hP:aaV aM W P a c)(hbc:Bc<Bi)(hcc:W.cell? ⟨Bc,0,none⟩=some (.slice a P.length c))(hci:W.cell? ⟨Bi,0,none⟩=some (.int .i64 v))(hfi:W.frozen? ⟨Bi,0,none⟩=false):
 Calls Tryz.prog 172 #[.pointer (some ⟨Bi,0,none⟩),.pointer (some ⟨Bc,0,none⟩)] W (aqe (t3s P) Bi j0 W):=by
 have hlc:P.length<=c/\c<=maxLen:=⟨hP.1,hP.2.1⟩;unfold maxLen at hlc;obtain⟨hl1,hl2⟩:=hlc;have HP:=ae hP;have HL:=ae (show(t3s P).length=P.length from by simp);have HC:=ae hcc
 have HI0:=ae (show NxF Bi j0 W (W.setCell ⟨Bi,0,none⟩ (.int .i64 (v+1))) from by
  rw[hv];exact(NxF.set ⟨ag _ _,rfl,hci,hfi,fun _ _=>rfl⟩ _))
 have hv0: -9223372036854775808<=v+1:=by omega
 have hv1:v+1<=9223372036854775807:=by omega
 clear hP hcc hv;go_enter Tryz.func172,Tryz.ntmps172;go_wp2;generalize W.setCell ⟨Bi,0,none⟩ (.int .i64 (v+1))=W1 at HI0 ⊢;clear hci hfi hv0 hv1
 go_loopg [] (P.length-j0) (fun gk wr=>NxI (t3s P) Bi j0 W gk wr)
 case atStart=>exact⟨j0,af _,by rw[HL.out];exact hj,by rw[HL.out],fun q h1 h2=>by omega,HI0.out⟩
 case round=>
  obtain⟨j,h1,h2,h3,h4,h5⟩:=hrel;rw[HL.out] at h2 h3;have HN:=ae h4;have HF:=ae h5;have hci:=h5.c;have hfi:=h5.f;have hcc:=(h5.b.cell (p:=⟨Bc,0,none⟩) hbc).trans HC.out;have hj0:(0:Int)<=(j:Int):=aw _;clear h4 h5 HI0;by_cases hlt:j<P.length
  ·obtain⟨b,o,x,rfl,hb,hx,⟨a0,_⟩,_⟩:=(HP.out.below (HF.out.b.mono hn)).elem (i:=j) hlt;have hj1:(j:Int)<(P.length:Int):=by omega
   have HX:=ae (aaD (acr hx));have hbi:b≠Bi:=by omega
   clear hx;obtain⟨nn,hnn⟩:∃nn,x.n=nn:=⟨_,rfl⟩;rw[hnn] at a0;have HNN:=ae (show((t3s P).getD j z3).neg=nn from by rw[HX.out];exact hnn);clear hnn;cases nn with
   |true=>
    go_wp2;refine bodyPost_ret (v:= .tuple #[.int .i64 j,.bool true]) (by simp[results,Tryz.results172,go_sem]) rfl ?_;exact⟨j,h1,by rw[HL.out];omega,HN.out,HF.out,.inl ⟨by rw[HL.out];exact hlt,HNN.out,rfl⟩⟩
   |false=>
    have hs1: -9223372036854775808<=(j:Int)+1:=by omega
    have hs2:(j:Int)+1<=9223372036854775807:=by omega
    have HR:=ae (show NxI (t3s P) Bi j0 W (P.length-(j+1)) (wr.setCell ⟨Bi,0,none⟩ (.int .i64 ((j:Int)+1))) from by
     refine⟨j+1,by omega,by rw[HL.out];omega,by rw[HL.out],fun q q1 q2=> ?_,?_⟩
     ·by_cases e:q=j
      ·subst e;exact HNN.out
      ·exact HN.out q q1 (by omega)
     ·have h:=HF.out.set ((j:Int)+1);rwa[show((j+1:Nat):Int)=(j:Int)+1 from by omega])
    go_wp2
    go_roundg (P.length-(j+1))
    case measure=>omega
    case rel=>exact HR.out
  ·obtain rfl:j=P.length:=by omega
   go_wp2;refine bodyPost_ret (v:= .tuple #[.int .i64 0,.bool false]) (by simp[results,Tryz.results172,go_sem]) rfl ?_;exact⟨P.length,h1,by rw[HL.out];omega,HN.out,HF.out,.inr ⟨by rw[HL.out],rfl⟩⟩
theorem aeE(P:List LV)(a:Option Addr)(c:Nat)(w:World):
 Calls Tryz.prog 129 #[.slice a P.length c] w fun e w'=>e= .returned (.func (.func 172) #[] #[.pointer (some ⟨w.heap.size+1,0,none⟩),.pointer (some ⟨w.heap.size,0,none⟩)])/\w'=(w.alloc (.cells #[.slice a P.length c] 23)).alloc (.cells #[.int .i64 (-1)] 3):=by
 go_enter Tryz.func129,Tryz.ntmps129;go_wp2;go_ret;exact⟨rfl,rfl⟩
def am4(L:List Int)(w:World)(e:Ending)(w':World):Prop:=∃(p:Option Addr) (c:Nat),e= .returned (.slice p L.length c)/\acP w'.heap.size w' L p c/\Below w.heap.size w w'
theorem ae9(n:Nat)(W:World):acP n W [] none 0:=⟨by simp,by simp[maxLen],.inl rfl⟩
theorem av2(z:Int)(W:World):acP (W.alloc (.cells #[.int .i64 z] 3)).heap.size (W.alloc (.cells #[.int .i64 z] 3)) [z] (some ⟨W.heap.size,0,none⟩) 1:=by
 have h:=(abR W #[.int .i64 z] 3).now;refine⟨by simp,by simp[maxLen],.inr ⟨W.heap.size,0,rfl,h.1,fun j y hy=> ?_⟩⟩
 match j,hy with
 |0,hy=>simp at hy;subst hy;exact h.2 0 _ rfl
 |j+1,hy=>simp at hy
structure NgW (P:List LV) (a:Option Addr) (c:Nat) (j:Int) (w wr:World):Prop where
 b:Below w.heap.size w wr
 k:wr.cell? ⟨w.heap.size,0,none⟩=some (.slice a P.length c)
 c:wr.cell? ⟨w.heap.size+1,0,none⟩=some (.int .i64 j)
 f:wr.frozen? ⟨w.heap.size+1,0,none⟩=false
 z:w.heap.size+1<wr.heap.size
theorem akR(P:List LV)(a:Option Addr)(c:Nat)(w:World):NgW P a c (-1) w ((w.alloc (.cells #[.slice a P.length c] 23)).alloc (.cells #[.int .i64 (-1)] 3)):=
 ⟨((ag _ w).alloc (af _) _).alloc (by simp) _,by simp[go_sem],by simp[go_sem],by simp[go_sem],by simp⟩
theorem NgW.next{P:List LV}{a:Option Addr}{c:Nat}{j k:Int}{w wr w':World}(h:NgW P a c j w wr)(hx:NxF (w.heap.size+1) k wr w'):NgW P a c k w w':=
 ⟨h.b.trans (hx.b.mono (by omega)),(hx.b.cell (p:=⟨w.heap.size,0,none⟩) (by simp)).trans h.k,hx.c,hx.f,by rw[hx.s];exact h.z⟩
theorem NgW.later{P:List LV}{a:Option Addr}{c:Nat}{j:Int}{w wr w':World}(h:NgW P a c j w wr)(hb:Below wr.heap.size wr w'):NgW P a c j w w':=by
 have hz:=h.z;exact⟨h.b.trans (hb.mono (by omega)),(hb.cell (p:=⟨w.heap.size,0,none⟩) (by simp;omega)).trans h.k,(hb.cell (p:=⟨w.heap.size+1,0,none⟩) hz).trans h.c,(hb.frozen (p:=⟨w.heap.size+1,0,none⟩) hz).trans h.f,by have:=hb.size;omega⟩
theorem NgW.call{P:List LV}{a:Option Addr}{c:Nat}{v:Int}{w wr:World}{j0:Nat}(h:NgW P a c v w wr)(hv:v+1=j0)(hj:j0<=P.length)(hP:aaV w.heap.size w P a c):
 Calls Tryz.prog 172 #[.pointer (some ⟨w.heap.size+1,0,none⟩),.pointer (some ⟨w.heap.size,0,none⟩)] wr (aqe (t3s P) (w.heap.size+1) j0 wr):=
 asi P w.heap.size (w.heap.size+1) w.heap.size j0 v hv hj a c wr (by omega) (hP.below h.b) (by omega) h.k h.c h.f
theorem asj(g:Sg)(P:List LV)(ga:Option Addr)(gc:Nat)(a:Option Addr)(c:Nat)(w:World):
 Calls Tryz.prog 80 #[.slice ga g.length gc,.slice a P.length c] w (am4 (abb g (t3s P) 0) w):=by
 go_enter Tryz.func80,Tryz.ntmps80;go_wp2;go_ret;exact⟨none,0,rfl,ae9 _ _,ag _ _⟩
theorem aok{g:Sg}{C:List Lt3}{j:Nat}(hj:j<C.length)(hno:av1 C 0 j)(hn:(C.getD j z3).neg=true):abb g C 1=[(j:Int)]:=by
 have hb:∀n,j<n->abo g false C n=j:=by
  intro n
  induction n with
  |zero=>intro h;omega
  |succ n ih=>
   intro h;rw[abo];by_cases e:n=j
   ·subst e;rw[if_pos (by rw[hn]),if_pos ((adK n).2 fun q hq=>hno q (by omega) hq)]
   ·rw[ih (by omega)];split
    ·rw[if_neg (by omega)];simp
    ·rfl
 unfold abb;rw[if_neg (by decide)];show(if abo g false C C.length<0 then[] else[abo g false C C.length])=_;rw[hb _ hj,if_neg (by omega)]
theorem asl{g:Sg}{C:List Lt3}{how:Int}(hno:av1 C 0 C.length):abb g C how=[]:=by
 unfold abb;split
 ·rfl
 ·rw[if_pos ((adK _).2 fun q hq=>hno q (by omega) hq)]
theorem akS(g:Sg)(P:List LV)(aM:Nat)(ga:Option Addr)(gc:Nat)(a:Option Addr)(c:Nat)(w:World)(hn:aM<=w.heap.size)(hP:aaV aM w P a c):
 Calls Tryz.prog 81 #[.slice ga g.length gc,.slice a P.length c] w (am4 (abb g (t3s P) 1) w):=by
 have HP:=ae (hP.mono hn);clear hP;go_enter Tryz.func81,Tryz.ntmps81
 go_wp2_with fail
 refine(aeE P a c w).mono ?_;rintro e w2 ⟨rfl,hw2⟩;have HN:=ae (show NgW P a c (-1) w w2 from by rw[hw2];exact akR P a c w);clear hw2
 go_wp2_with fail
 refine(HN.out.call (j0:=0) (by decide) (by omega) HP.out).mono ?_;rintro e w3 ⟨j,_,hjl,hno,hF,hres⟩;have HN3:=ae (HN.out.next hF);have HNO:=ae hno;clear hno hF
 rcases hres with⟨h1,h2,rfl⟩|⟨h1,rfl⟩
 ·have HR:=ae (aok (g:=g) h1 HNO.out h2);clear h1 h2 hjl;go_wp2;go_ret;exact⟨some ⟨w3.heap.size,0,none⟩,1,by rw[HR.out];rfl,by rw[HR.out];exact av2 _ _,HN3.out.b.alloc (by have:=HN3.out.b.size;omega) _⟩
 ·have HR:=ae (asl (g:=g) (how:=1) (by rw[←h1];exact HNO.out));clear h1 hjl;go_wp2;go_ret;exact⟨none,0,by rw[HR.out];rfl,by rw[HR.out];exact ae9 _ _,HN3.out.b⟩
def HvB(g:Sg)(C:List Lt3)(w:World)(j:Nat)(hv gr:Value)(wr:World):Prop:=
 (abo g true C j<0/\hv= .slice none 0 0/\gr= .int .i64 0)\/
 (0<=abo g true C j/\gr= .int .i64 (wtB g (C.getD (abo g true C j).toNat z3))/\∃h,hv= .slice (some ⟨h,0,none⟩) 1 1/\w.heap.size+1<h/\h<wr.heap.size/\wr.cell? ⟨h,0,none⟩=some (.int .i64 (abo g true C j)))
def HvI(g:Sg)(P:List LV)(a:Option Addr)(c:Nat)(w:World)(gk:Nat)(hv gr iv ok:Value)(wr:World):Prop:=
 ∃j:Nat,j<=P.length/\gk=P.length-j/\NgW P a c j w wr/\HvB g (t3s P) w j hv gr wr/\
 ((j<P.length/\((t3s P).getD j z3).neg=true/\iv= .int .i64 j/\ok= .bool true)\/(j=P.length/\iv= .int .i64 0/\ok= .bool false))
theorem HvB.skip{g:Sg}{C:List Lt3}{w wr w':World}{j n:Nat}{hv gr:Value}(h:HvB g C w j hv gr wr)(hno:av1 C j n)(hn:j<=n)(hb:∀b,b≠w.heap.size+1->w'.heap[b]? =wr.heap[b]?)(hs:wr.heap.size<=w'.heap.size):HvB g C w n hv gr w':=by
 unfold HvB at h ⊢;rw[aie n hno hn]
 rcases h with h|⟨h1,h2,k,h3,h4,h5,h6⟩
 ·exact .inl h
 ·exact .inr ⟨h1,h2,k,h3,h4,by omega,(aq (a:=⟨k,0,none⟩) (hb k (by omega))).trans h6⟩
theorem akT(g:Sg)(P:List LV)(hsz:∀x∈P,x.sz)(hok:aaN g (t3s P)=0)(aM:Nat)(ga:Option Addr)(gc:Nat)(a:Option Addr)(c:Nat)(w:World)(hn:aM<=w.heap.size)(hG:aaX aM w g ga gc)(hP:aaV aM w P a c):
 Calls Tryz.prog 82 #[.slice ga g.length gc,.slice a P.length c] w (am4 (abb g (t3s P) 2) w):=by
 have hlc:P.length<=c/\c<=maxLen:=⟨hP.1,hP.2.1⟩;unfold maxLen at hlc;obtain⟨hl1,hl2⟩:=hlc;have HSZ:=ae hsz;have HOK:=ae (show ∀x∈P,abn g x.l x.r=0 from fun x hx=>(aba hok).2.2 x.t3 (List.mem_map.2 ⟨x,hx,rfl⟩));have HP:=ae (hP.mono hn);have HG:=ae (hG.mono hn);have HL:=ae (show(t3s P).length=P.length from by simp);clear hP hG hsz hok;go_enter Tryz.func82,Tryz.ntmps82
 go_wp2_with fail
 refine(aeE P a c w).mono ?_;rintro e w2 ⟨rfl,hw2⟩;have HN:=ae (show NgW P a c (-1) w w2 from by rw[hw2];exact akR P a c w);clear hw2
 go_wp2_with fail
 refine(HN.out.call (j0:=0) (by decide) (by omega) HP.out).mono ?_;rintro e w3 ⟨j,_,hjl,hno,hF,hres⟩;rw[HL.out] at hjl hres
 obtain⟨iv,ok,he,hst⟩:∃iv ok,e= .returned (.tuple #[iv,ok])/\((j<P.length/\((t3s P).getD j z3).neg=true/\iv= .int .i64 j/\ok= .bool true)\/(j=P.length/\iv= .int .i64 0/\ok= .bool false)):=by
  rcases hres with⟨h1,h2,h3⟩|⟨h1,h3⟩
  ·exact⟨_,_,h3,.inl ⟨h1,h2,rfl,rfl⟩⟩
  ·exact⟨_,_,h3,.inr ⟨h1,rfl,rfl⟩⟩
 have HI:=ae (show HvI g P a c w (P.length-j) (.slice none 0 0) (.int .i64 0) iv ok w3 from
  ⟨j,hjl,rfl,HN.out.next hF,.inl ⟨(adK j).2 fun q hq=>hno q (by omega) hq,rfl,rfl⟩,hst⟩)
 subst he;clear hres hst hno hF hjl;go_wp2
 go_loopg [5,6,8,9] (P.length-j) (fun gk hv gr iv ok wr=>HvI g P a c w gk hv gr iv ok wr)
 case atStart=>exact HI.out
 case round=>
  obtain⟨j,hjl,hgk,hN,hB,hst⟩:=hrel;have HN:=ae hN;have HB:=ae hB;have hwz:=hN.b.size;clear hN hB HI
  rcases hst with⟨hlt,hneg,rfl,rfl⟩|⟨rfl,rfl,rfl⟩
  ·obtain⟨b,o,x,rfl,hb,hx,⟨a0,a1,a2,a3,a4⟩,hxl⟩:=(HP.out.below HN.out.b).elem (i:=j) hlt;have hj0:(0:Int)<=(j:Int):=aw _;have hj1:(j:Int)<(P.length:Int):=by omega
   have HX:=ae (aaD (acr hx));have CW:=ae (aoj g x (HSZ.out x (ak hx)) (HOK.out x (ak hx)) w.heap.size ga gc wr hwz (HG.out.below HN.out.b) hxl);have HNG:=ae hneg
   have HW1:=ae (show 1<=wtB g x.t3 from by
    obtain⟨_,_,h1,_,h2,_⟩:=akQ (HOK.out x (ak hx));show 1<=wtT g x.l+wtT g x.r;omega)
   clear hx hxl hneg
   go_wp2_with fail
   refine CW.out.mono ?_;rintro e w4 ⟨rfl,hb4⟩;have HN4:=ae (HN.out.later hb4);have HB4:=ae (HB.out.skip (n:=j) (fun q h1 h2=>by omega) (af _) (w':=wr) (fun _ _=>rfl) (af _));have HBL4:=ae hb4;have hz4:=hb4.size;clear hb4 CW a0 a1 a2 a3 a4
   have hkey:abo g true (t3s P) (j+1)=if abo g true (t3s P) j<0\/wtB g ((t3s P).getD (abo g true (t3s P) j).toNat z3)<wtB g x.t3 then(j:Int) else abo g true (t3s P) j:=by
    rw[abo,if_pos HNG.out,HX.out];by_cases h:abo g true (t3s P) j<0
    ·rw[if_pos h,if_pos (.inl h)]
    ·rw[if_neg h];simp[h]
   have HK:=ae hkey;clear hkey;obtain⟨q,hq⟩:∃q,wtB g x.t3=q:=⟨_,rfl⟩;rw[hq] at HK HW1 ⊢;have HQ:=ae hq;clear hq
   have fin:∀(hv gr:Value) (W:World),NgW P (some ⟨b,o,none⟩) c j w W->HvB g (t3s P) w (j+1) hv gr W->∀(w5:World) (e:Ending),aqe (t3s P) (w.heap.size+1) (j+1) W e w5->∃(j2:Nat) (iv ok:Value),j<j2/\j2<=P.length/\e= .returned (.tuple #[iv,ok])/\HvI g P (some ⟨b,o,none⟩) c w (P.length-j2) hv gr iv ok w5:=by
    rintro hv gr W hNW hBW w5 e ⟨j2,h1,h2,hno,hF,hres⟩;rw[HL.out] at h2 hres;have hI:=hBW.skip hno h1 (w':=w5) (fun b hb=>hF.o b hb) (by rw[hF.s];exact af _)
    rcases hres with⟨r1,r2,rfl⟩|⟨r1,rfl⟩
    ·exact⟨j2,_,_,by omega,h2,rfl,j2,h2,rfl,hNW.next hF,hI,.inl ⟨r1,r2,rfl,rfl⟩⟩
    ·exact⟨j2,_,_,by omega,h2,rfl,j2,h2,rfl,hNW.next hF,hI,.inr ⟨r1,rfl,rfl⟩⟩
   have HFIN:=ae fin;clear fin
   rcases HB4.out with⟨hbn,rfl,rfl⟩|⟨hbp,rfl,h,rfl,hh1,hh2,hh3⟩
   ·have hgt:(0:Int)<q:=by have:=HW1.out;omega
    have HNEW:=ae (show HvB g (t3s P) w (j+1) (.slice (some ⟨w4.heap.size,0,none⟩) 1 1) (.int .i64 q) (w4.alloc (.cells #[.int .i64 j] 3)) from by
     have he:abo g true (t3s P) (j+1)=j:=by rw[HK.out,if_pos (.inl hbn)]
     have hcs:=(abR w4 #[.int .i64 j] 3).now;refine .inr ⟨by rw[he];omega,by rw[he,Int.toNat_natCast,HX.out,HQ.out],w4.heap.size,rfl,by have:=HN4.out.z;omega,hcs.1,by rw[he];exact hcs.2 0 _ rfl⟩)
    have HN5:=ae (HN4.out.later ((ag _ w4).alloc (af _) (.cells #[.int .i64 j] 3)));clear hbn
    go_wp2_with fail
    refine(HN5.out.call (j0:=j+1) (by omega) (by omega) HP.out).mono ?_;intro e w5 hp;obtain⟨j2,iv,ok,g1,g2,rfl,g3⟩:=HFIN.out _ _ _ HN5.out HNEW.out w5 e hp;have HG3:=ae g3;clear g3 hp;go_wp2
    go_roundg (P.length-j2)
    case measure=>omega
    case rel=>exact HG3.out
   ·generalize hpb:abo g true (t3s P) j=bb at*;generalize hqb:wtB g ((t3s P).getD bb.toNat z3)=qq at*;have HPB:=ae (And.intro hpb hqb);clear hpb hqb;have hc4:=(HBL4.out.cell (p:=⟨h,0,none⟩) hh2).trans hh3;by_cases hgt:qq<q
    ·have HNEW:=ae (show HvB g (t3s P) w (j+1) (.slice (some ⟨w4.heap.size,0,none⟩) 1 1) (.int .i64 q) (w4.alloc (.cells #[.int .i64 j] 3)) from by
      have he:abo g true (t3s P) (j+1)=j:=by rw[HK.out,if_pos (.inr hgt)]
      have hcs:=(abR w4 #[.int .i64 j] 3).now;refine .inr ⟨by rw[he];omega,by rw[he,Int.toNat_natCast,HX.out,HQ.out],w4.heap.size,rfl,by have:=HN4.out.z;omega,hcs.1,by rw[he];exact hcs.2 0 _ rfl⟩)
     have HN5:=ae (HN4.out.later ((ag _ w4).alloc (af _) (.cells #[.int .i64 j] 3)));clear hc4 hh3
     go_wp2_with fail
     refine(HN5.out.call (j0:=j+1) (by omega) (by omega) HP.out).mono ?_;intro e w5 hp;obtain⟨j2,iv,ok,g1,g2,rfl,g3⟩:=HFIN.out _ _ _ HN5.out HNEW.out w5 e hp;have HG3:=ae g3;clear g3 hp;go_wp2
     go_roundg (P.length-j2)
     case measure=>omega
     case rel=>exact HG3.out
    ·have HNEW:=ae (show HvB g (t3s P) w (j+1) (.slice (some ⟨h,0,none⟩) 1 1) (.int .i64 qq) w4 from by
      have he:abo g true (t3s P) (j+1)=bb:=by rw[HK.out,if_neg (by omega)]
      refine .inr ⟨by rw[he];omega,by rw[he,HPB.out.2],h,rfl,hh1,by omega,by rw[he];exact hc4⟩)
     have hgt':decide (qq<q)=false:=decide_eq_false hgt;clear hc4 hh3 hgt
     go_wp2_with fail
     refine(HN4.out.call (j0:=j+1) (by omega) (by omega) HP.out).mono ?_;intro e w5 hp;obtain⟨j2,iv,ok,g1,g2,rfl,g3⟩:=HFIN.out _ _ _ HN4.out HNEW.out w5 e hp;have HG3:=ae g3;clear g3 hp;go_wp2
     go_roundg (P.length-j2)
     case measure=>omega
     case rel=>exact HG3.out
  ·have hpk:abb g (t3s P) 2=if abo g true (t3s P) P.length<0 then[] else[abo g true (t3s P) P.length]:=by
    unfold abb;rw[if_neg (by decide),HL.out];rfl
   rcases HB.out with⟨hbn,rfl,rfl⟩|⟨hbp,rfl,h,rfl,hh1,hh2,hh3⟩
   ·have HR:=ae (show abb g (t3s P) 2=[] from by rw[hpk,if_pos hbn]);clear hpk hbn;go_wp2;go_ret;exact⟨none,0,by rw[HR.out];rfl,by rw[HR.out];exact ae9 _ _,HN.out.b⟩
   ·have HR:=ae (show abb g (t3s P) 2=[abo g true (t3s P) P.length] from by rw[hpk,if_neg (by omega)]);have HC:=ae hh3;clear hpk hbp hh3;go_wp2;go_ret;refine⟨some ⟨h,0,none⟩,1,by rw[HR.out];rfl,?_,HN.out.b⟩;rw[HR.out];refine⟨by simp,by simp[maxLen],.inr ⟨h,0,rfl,hh2,fun i y hy=> ?_⟩⟩
    match i,hy with
    |0,hy=>simp at hy;subst hy;exact HC.out
    |i+1,hy=>simp at hy
abbrev Fn0:Value:= .func (.func 80) #[] #[]
abbrev Fn1:Value:= .func (.func 81) #[] #[]
abbrev Fn2:Value:= .func (.func 82) #[] #[]
theorem ahB(w:World):
 Calls Tryz.prog 45 #[] w fun e w'=>e= .returned (.agg #[Fn0,Fn1,Fn2])/\Below w.heap.size w w':=by
 go_enter Tryz.func45,Tryz.ntmps45;go_wp2;refine bodyPost_ret (v:= .agg #[Fn0,Fn1,Fn2]) (by simp[results,Tryz.results45,go_sem]) rfl ?_;exact⟨rfl,by first|exact(ag _ w).alloc (af _) _|exact((((ag _ w).alloc (af _) _).setCell (p:=⟨w.heap.size,0,none⟩) (af _) _).setCell (p:=⟨w.heap.size,1,none⟩) (af _) _).setCell (p:=⟨w.heap.size,2,none⟩) (af _) _⟩
def av3(g:Sg)(C:List Lt3)(how:Int)(w:World)(e:Ending)(w':World):Prop:=∃(p:Option Addr) (c':Nat),e= .returned (.tuple #[.slice p (seL g C how).length c',.int .i64 (seE g C how)])/\acP w'.heap.size w' (seL g C how) p c'/\Below w.heap.size w w'
theorem ada(g:Sg)(P:List LV)(hsz:∀x∈P,x.sz)(how:Int)(aM:Nat)(ga:Option Addr)(gc:Nat)(a:Option Addr)(c:Nat)(w:World)(hn:aM<=w.heap.size)(hG:aaX aM w g ga gc)(hP:aaV aM w P a c):
 Calls Tryz.prog 19 #[.slice ga g.length gc,.slice a P.length c,.int .i64 how] w (av3 g (t3s P) how w):=by
 have HSZ:=ae hsz;have HP:=ae (hP.mono hn);have HG:=ae (hG.mono hn);clear hP hG hsz;go_enter Tryz.func19,Tryz.ntmps19
 go_wp2_with fail
 refine(acN g P HSZ.out w.heap.size ga gc a c w (af _) HG.out HP.out).mono ?_;rintro e w2 ⟨rfl,hb⟩;have HB2:=ae hb;clear hb;by_cases he:aaN g (t3s P)=0
 case neg=>
  have HE:=ae (avC (how:=how) he);obtain⟨k,hk⟩:∃k,aaN g (t3s P)=k:=⟨_,rfl⟩;rw[hk] at he HE ⊢;have h2:(k != 0)=true:=by simpa using he
  clear he hk;go_wp2;refine bodyPost_ret (v:= .tuple #[.slice none 0 0,.int .i64 k]) (by simp[results,Tryz.results19,go_sem]) rfl ?_;exact⟨none,0,by rw[HE.out.1,HE.out.2];rfl,by rw[HE.out.2];exact ae9 _ _,HB2.out⟩
 have HE:=ae he;rw[he];clear he
 go_wp2_with fail
 refine(ahB w2).mono ?_;rintro e w3 ⟨rfl,hb⟩;have HB3:=ae (HB2.out.trans (hb.mono HB2.out.size));clear hb;by_cases hh:0<=how/\how<=2
 ·have HR:=ae (apy HE.out hh);have h012:how=0\/how=1\/how=2:=by omega
  clear hh
  have fin:∀(W:World),Below w.heap.size w W->∀(W':World) (e:Ending),am4 (abb g (t3s P) how) W e W'->∃(p:Option Addr) (c':Nat),e= .returned (.slice p (seL g (t3s P) how).length c')/\acP W'.heap.size W' (seL g (t3s P) how) p c'/\Below w.heap.size w W':=by
   rintro W hW W' e ⟨p,c',rfl,hI,hb⟩;exact⟨p,c',by rw[HR.out.2],by rw[HR.out.2];exact hI,hW.trans (hb.mono hW.size)⟩
  have HFIN:=ae fin;have HR2:=ae HR.out.1;clear fin
  rcases h012 with rfl|rfl|rfl
  ·go_wp2_with fail
   refine(asj g P ga gc a c _).mono ?_;intro e w5 hp;obtain⟨p,c',rfl,hI,hb⟩:=HFIN.out _ (HB3.out.alloc HB3.out.size _) _ _ hp;have HI:=ae (And.intro hI hb);clear hI hb hp;go_wp2;refine bodyPost_ret (v:= .tuple #[.slice p (seL g (t3s P) 0).length c',.int .i64 0]) (by simp[results,Tryz.results19,go_sem]) rfl ?_;exact⟨p,c',by rw[HR2.out],HI.out.1,HI.out.2⟩
  ·go_wp2_with fail
   refine(akS g P w.heap.size ga gc a c _ ?hz ?hp).mono ?_
   case hz=>have:=HB3.out.size;simp;omega
   case hp=>exact HP.out.below (HB3.out.alloc HB3.out.size _)
   intro e w5 hp;obtain⟨p,c',rfl,hI,hb⟩:=HFIN.out _ (HB3.out.alloc HB3.out.size _) _ _ hp;have HI:=ae (And.intro hI hb);clear hI hb hp;go_wp2;refine bodyPost_ret (v:= .tuple #[.slice p (seL g (t3s P) 1).length c',.int .i64 0]) (by simp[results,Tryz.results19,go_sem]) rfl ?_;exact⟨p,c',by rw[HR2.out],HI.out.1,HI.out.2⟩
  ·go_wp2_with fail
   refine(akT g P HSZ.out HE.out w.heap.size ga gc a c _ ?hz ?hg ?hp).mono ?_
   case hz=>have:=HB3.out.size;simp;omega
   case hg=>exact HG.out.below (HB3.out.alloc HB3.out.size _)
   case hp=>exact HP.out.below (HB3.out.alloc HB3.out.size _)
   intro e w5 hp;obtain⟨p,c',rfl,hI,hb⟩:=HFIN.out _ (HB3.out.alloc HB3.out.size _) _ _ hp;have HI:=ae (And.intro hI hb);clear hI hb hp;go_wp2;refine bodyPost_ret (v:= .tuple #[.slice p (seL g (t3s P) 2).length c',.int .i64 0]) (by simp[results,Tryz.results19,go_sem]) rfl ?_;exact⟨p,c',by rw[HR2.out],HI.out.1,HI.out.2⟩
 ·have HR:=ae (avD HE.out hh);have hh':how<0\/(¬how<0/\3<=how):=by omega
  clear hh
  rcases hh' with h|⟨h0,h⟩
  ·go_wp2;refine bodyPost_ret (v:= .tuple #[.slice none 0 0,.int .i64 1]) (by simp[results,Tryz.results19,go_sem]) rfl ?_;exact⟨none,0,by rw[HR.out.1,HR.out.2];rfl,by rw[HR.out.2];exact ae9 _ _,HB3.out.alloc HB3.out.size _⟩
  ·have h0':decide (how<0)=false:=decide_eq_false h0;clear h0;go_wp2;refine bodyPost_ret (v:= .tuple #[.slice none 0 0,.int .i64 1]) (by simp[results,Tryz.results19,go_sem]) rfl ?_;exact⟨none,0,by rw[HR.out.1,HR.out.2];rfl,by rw[HR.out.2];exact ae9 _ _,HB3.out.alloc HB3.out.size _⟩
def IxI(n:Int)(zs:List Int)(w:World)(i:Value)(wr:World):Prop:=∃k:Nat,k<=zs.length/\i= .int .i64 k/\(∀j,j<k->zs[j]? ≠some n)/\wr=w
theorem aol(n:Int)(zs:List Int)(aM:Nat)(a:Option Addr)(c:Nat)(w:World)(hn:aM<=w.heap.size)(hZ:acP aM w zs a c):
 Calls Tryz.prog 151 #[.slice a zs.length c,.int .i64 n] w fun e w'=>(∃m:Int,e= .returned (.int .i64 m)/\((0<=m)↔n∈zs))/\Below w.heap.size w w':=by
 have hl:zs.length<=c/\c<=maxLen:=⟨hZ.1,hZ.2.1⟩;unfold maxLen at hl;obtain⟨hl1,hl2⟩:=hl;have HZ:=ae hZ;clear hZ;go_enter Tryz.func151,Tryz.ntmps151;go_wp2
 go_loopw [8] (fun i wr=>IxI n zs w i wr) (fun i _=>zs.length-(intOf i).toNat)
 case atStart=>exact⟨0,Nat.zero_le _,rfl,fun j h=>by omega,rfl⟩
 case round=>
  obtain⟨k,hk,rfl,hno,rfl⟩:=hrel;have HN:=ae hno;clear hno;by_cases hlt:k<zs.length
  ·obtain⟨b,o,z,rfl,hbn,hz,hcz⟩:=HZ.out.elem (k:=k) hlt;have hk0:(0:Int)<=(k:Int):=aw _;have hk1:(k:Int)<(zs.length:Int):=by omega
   have HZK:=ae hz;clear hz;by_cases q:z=n
   ·subst q;go_wp2;go_ret;exact⟨⟨k,rfl,⟨fun _=>ak HZK.out,fun _=>by omega⟩⟩,ag _ _⟩
   ·have q':(n==z)=false:=by simpa using fun e:n=z=>q e.symm
    go_wp2
    go_roundw
    case rel=>
     refine⟨k+1,by omega,by go_num,fun j hj=> ?_,rfl⟩;by_cases e:j=k
     ·subst e;rw[HZK.out];intro e;exact q (Option.some.inj e)
     ·exact HN.out j (by omega)
    case measure=>simp[intOf];omega
  ·have hd:n∉zs:=by
    intro hm;obtain⟨j,hj⟩:=au hm;exact HN.out j (by have:=(ah.1 hj).1;omega) hj
   go_wp2;go_ret;exact⟨⟨-1,rfl,⟨fun h=>by omega,fun h=>absurd h hd⟩⟩,ag _ _⟩
theorem ajE(n:Int)(zs:List Int)(aM:Nat)(a:Option Addr)(c:Nat)(w:World)(hn:aM<=w.heap.size)(hZ:acP aM w zs a c):
 Calls Tryz.prog 105 #[.slice a zs.length c,.int .i64 n] w fun e w'=>e= .returned (.bool (decide (n∈zs)))/\Below w.heap.size w w':=by
 have CI:=ae (aol n zs aM a c w hn hZ);clear hZ;go_enter Tryz.func105,Tryz.ntmps105
 go_wp2_with fail
 refine CI.out.mono ?_;rintro e w2 ⟨⟨m,rfl,hm⟩,hb⟩;have HB:=ae hb;have HM:=ae (show decide (n∈zs)=decide (0<=m) from by simp[hm]);clear hb hm;go_wp2;go_ret;exact⟨by rw[HM.out];rfl,HB.out⟩
def av4(g:Sg)(C:List Lt3)(how i:Int)(s:Sb)(w:World)(e:Ending)(w':World):Prop:=e= .returned (.tuple #[.bool (myR g C how i s),.int .i64 (myE g C how i s)])/\Below w.heap.size w w'
theorem av5{g:Sg}{C:List Lt3}{how i:Int}{s:Sb}(h:seE g C how≠0):myE g C how i s=seE g C how/\myR g C how i s=false:=by
 have he:myE g C how i s=seE g C how:=by unfold myE;rw[if_neg h]
 exact⟨he,by unfold myR;rw[if_neg (by rw[he];exact h)]⟩
theorem av6{g:Sg}{C:List Lt3}{how i:Int}{s:Sb}(h:seE g C how=0)(hi:aid C i=false):myE g C how i s=1/\myR g C how i s=false:=by
 have he:myE g C how i s=1:=by unfold myE;rw[if_pos h,hi];rfl
 exact⟨he,by unfold myR;rw[if_neg (by rw[he];decide)]⟩
theorem av7{g:Sg}{C:List Lt3}{how i:Int}{s:Sb}(h:seE g C how=0)(hi:aid C i=true)(ha:acE s C≠0):myE g C how i s=acE s C/\myR g C how i s=false:=by
 have he:myE g C how i s=acE s C:=by unfold myE;rw[if_pos h,hi,if_pos rfl,if_neg ha]
 exact⟨he,by unfold myR;rw[if_neg (by rw[he];exact ha)]⟩
theorem av8{g:Sg}{C:List Lt3}{how i:Int}{s:Sb}(h:seE g C how=0)(hi:aid C i=true)(ha:acE s C=0):myE g C how i s=aaN g (acL s C):=by
 unfold myE;rw[if_pos h,hi,if_pos rfl,if_pos ha]
theorem auq{g:Sg}{C:List Lt3}{how i:Int}{s:Sb}(h:myE g C how i s=0)(hp:abb g C how≠[]):myR g C how i s=decide (i∈abb g C how):=by
 unfold myR;rw[if_pos h,if_neg hp]
theorem aur{g:Sg}{C:List Lt3}{how i:Int}{s:Sb}(h:myE g C how i s=0)(hp:abb g C how=[]):myR g C how i s=ali g (acL s C) i.toNat (!(C.getD i.toNat z3).neg):=by
 unfold myR;rw[if_pos h,if_pos hp]
theorem aus{s:Sb}{C:List Lt3}(h:acE s C=0):(acL s C).length=C.length:=by rw[(agO h).2.2,List.length_map]
theorem atj{s:Sb}{C:List Lt3}{O:List LV}(ho:t3s O=acL s C):∀y∈O,y.sz:=fun y hy=>by
 by_cases h:acE s C=0
 ·have hm:y.t3∈acL s C:=by rw[←ho];exact List.mem_map.2 ⟨y,hy,rfl⟩
  rw[(agO h).2.2] at hm;obtain⟨x,_,e⟩:=List.mem_map.1 hm;have e1:abe s x.l=y.l:=congrArg Lt3.l e;have e2:abe s x.r=y.r:=congrArg Lt3.r e;exact⟨by rw[←e1];exact agM _ _,by rw[←e2];exact agM _ _⟩
 ·rw[apA h] at ho;rw[List.map_eq_nil_iff.1 ho] at hy;cases hy
theorem asm(g:Sg)(P:List LV)(hsz:∀x∈P,x.sz)(how i:Int)(s:Sb)(hss:∀x∈s,x.2.size<=1000000000000)(aM:Nat)(ga:Option Addr)(gc:Nat)(a:Option Addr)(c:Nat)(sa:Option Addr)(sc:Nat)(w:World)(hn:aM<=w.heap.size)(hG:aaX aM w g ga gc)(hP:aaV aM w P a c)(hS:ahj aM w s sa sc):
 Calls Tryz.prog 58 #[.slice ga g.length gc,.slice a P.length c,.int .i64 how,.int .i64 i,.slice sa s.length sc] w (av4 g (t3s P) how i s w):=by
 have HI:=ae (fun W=>ag4 P i a c W hP.1 hP.2.1);have hlc:P.length<=c/\c<=maxLen:=⟨hP.1,hP.2.1⟩;unfold maxLen at hlc;obtain⟨hl1,hl2⟩:=hlc;have HSZ:=ae hsz;have HSS:=ae hss;have HP:=ae (hP.mono hn);have HG:=ae (hG.mono hn);have HS:=ae (hS.mono hn);clear hP hG hS hsz hss;go_enter Tryz.func58,Tryz.ntmps58
 go_wp2_with fail
 refine(ada g P HSZ.out how w.heap.size ga gc a c w (af _) HG.out HP.out).mono ?_;rintro e w2 ⟨p2,c2,rfl,hI2,hb⟩;have HB2:=ae hb;have HI2:=ae hI2;clear hb hI2;by_cases he:seE g (t3s P) how=0
 case neg=>
  have HE:=ae (av5 (i:=i) (s:=s) he);obtain⟨k,hk⟩:∃k,seE g (t3s P) how=k:=⟨_,rfl⟩;rw[hk] at he HE ⊢;have h2:(k != 0)=true:=by simpa using he
  clear he hk;generalize (seL g (t3s P) how).length=n2;go_wp2;refine bodyPost_ret (v:= .tuple #[.bool false,.int .i64 k]) (by simp[results,Tryz.results58,go_sem]) rfl ?_;exact⟨by rw[HE.out.1,HE.out.2],HB2.out⟩
 have HE:=ae he;have HL:=ae (show seL g (t3s P) how=abb g (t3s P) how from(apy (adL he).1 (adL he).2).2);have HIP:=ae (show acP w2.heap.size w2 (abb g (t3s P) how) p2 c2 from by rw[←HL.out];exact HI2.out);rw[he,HL.out];clear he HI2;obtain⟨L,hL⟩:∃L,abb g (t3s P) how=L:=⟨_,rfl⟩;have HPL:=ae hL;rw[hL] at HIP ⊢;clear hL
 go_wp2_with fail
 refine(HI.out w2).mono ?_;rintro e w3 ⟨rfl,hb⟩;have HB23:=ae hb;have HB3:=ae (HB2.out.trans (hb.mono HB2.out.size));clear hb;cases hi:aid (t3s P) i with
 |false=>
  have HR:=ae (av6 (s:=s) HE.out hi);clear hi;go_wp2;refine bodyPost_ret (v:= .tuple #[.bool false,.int .i64 1]) (by simp[results,Tryz.results58,go_sem]) rfl ?_;exact⟨by rw[HR.out.1,HR.out.2],HB3.out⟩
 |true=>
  have HIX:=ae hi
  obtain⟨j,rfl,hj⟩:∃j:Nat,i=j/\j<P.length:=by
   simp[aid] at hi;exact⟨i.toNat,by omega,by omega⟩
  clear hi
  go_wp2_with fail
  refine(ae8 s HSS.out P HSZ.out w.heap.size sa sc a c w3 HB3.out.size (HS.out.below HB3.out) (HP.out.below HB3.out)).mono ?_;rintro e w4 ⟨O,p4,c4,hO,rfl,hcl,hb⟩;have HO:=ae hO;have HCL:=ae hcl;have HB24:=ae (HB23.out.trans (hb.mono HB23.out.size));have HB4:=ae (HB3.out.trans (hb.mono HB3.out.size));clear hb hO hcl;by_cases ha:acE s (t3s P)=0
  case neg=>
   have HR:=ae (av7 HE.out HIX.out ha);obtain⟨k,hk⟩:∃k,acE s (t3s P)=k:=⟨_,rfl⟩;rw[hk] at ha HR ⊢;have h2:(k != 0)=true:=by simpa using ha
   clear ha hk;go_wp2;refine bodyPost_ret (v:= .tuple #[.bool false,.int .i64 k]) (by simp[results,Tryz.results58,go_sem]) rfl ?_;exact⟨by rw[HR.out.1,HR.out.2],HB4.out⟩
  have HA:=ae ha;rw[ha];clear ha;have HOS:=ae (atj HO.out)
  have HOL:=ae (show O.length=P.length from by
   have h:=congrArg List.length HO.out;rw[aus HA.out] at h;simpa using h)
  go_wp2_with fail
  refine(acN g O HOS.out w4.heap.size ga gc p4 c4 w4 (af _) ((HG.out.below HB4.out).mono HB4.out.size) HCL.out).mono ?_;rw[HO.out];rintro e w5 ⟨rfl,hb⟩;have HB25:=ae (HB24.out.trans (hb.mono HB24.out.size));have HB5:=ae (HB4.out.trans (hb.mono HB4.out.size));have HCL5:=ae ((HCL.out.below hb).mono hb.size);clear hb HCL;have HM:=ae (av8 (g:=g) (how:=how) HE.out HIX.out HA.out);by_cases hk0:aaN g (acL s (t3s P))=0
  case neg=>
   have HR:=ae (show myR g (t3s P) how j s=false from by unfold myR;rw[if_neg (by rw[HM.out];exact hk0)]);obtain⟨k,hk⟩:∃k,aaN g (acL s (t3s P))=k:=⟨_,rfl⟩;rw[hk] at hk0 HM ⊢;have h2:(k != 0)=true:=by simpa using hk0
   clear hk0 hk;go_wp2;refine bodyPost_ret (v:= .tuple #[.bool false,.int .i64 k]) (by simp[results,Tryz.results58,go_sem]) rfl ?_;exact⟨by rw[HR.out,HM.out],HB5.out⟩
  have HK:=ae hk0;have HM0:=ae (HM.out.trans hk0);rw[hk0];clear hk0 HM;by_cases hll:L=[]
  ·have HR:=ae (aur HM0.out (HPL.out.trans hll));subst hll;have HLN:=ae HPL.out;obtain⟨b,o,x,rfl,hb,hx,⟨a0,_⟩,_⟩:=(HP.out.below HB5.out).elem (i:=j) hj;have hj0:(0:Int)<=(j:Int):=aw _;have hj1:(j:Int)<(P.length:Int):=by omega
   have HX:=ae (aaD (acr hx));clear hx;have CM:=ae (ag5 g O HOS.out (by rw[HO.out];exact HK.out) j (by rw[HOL.out];exact hj) (!x.n) w5.heap.size ga gc p4 c4 w5 (af _) ((HG.out.below HB5.out).mono HB5.out.size) HCL5.out)
   go_wp2_with fail
   refine CM.out.mono ?_;rw[HO.out];rintro e w6 ⟨rfl,hb6⟩;have HB6:=ae (HB5.out.trans (hb6.mono HB5.out.size));clear hb6 CM a0;rw[Int.toNat_natCast,HX.out] at HR;have HR2:=ae (show myR g (t3s P) how j s=ali g (acL s (t3s P)) j (!x.n) from HR.out);generalize ali g (acL s (t3s P)) j (!x.n)=q at HR2 ⊢;go_wp2;refine bodyPost_ret (v:= .tuple #[.bool q,.int .i64 0]) (by simp[results,Tryz.results58,go_sem]) rfl ?_;exact⟨by rw[HR2.out,HM0.out],HB6.out⟩
  ·have HR:=ae (auq HM0.out (fun e=>hll (HPL.out.symm.trans e)));rw[HPL.out] at HR
   have hl0:(0:Int)<(L.length:Int):=by
    have:=List.length_pos_iff.2 hll;omega
   clear hll;have CC:=ae (ajE j L w2.heap.size p2 c2 w5 (HB25.out.size) (HIP.out.below HB25.out))
   go_wp2_with fail
   refine CC.out.mono ?_;rintro e w6 ⟨rfl,hb6⟩;have HB6:=ae (HB5.out.trans (hb6.mono HB5.out.size));clear hb6 CC;generalize decide ((j:Int)∈L)=q at HR ⊢;go_wp2;refine bodyPost_ret (v:= .tuple #[.bool q,.int .i64 0]) (by simp[results,Tryz.results58,go_sem]) rfl ?_;exact⟨by rw[HR.out,HM0.out],HB6.out⟩
abbrev Prs:=List (T×T)
theorem RI.sizes{x y t u:T}{s:Sb}{l:Prs}{F:List T}(h:RI x y s ((t,u)::l) F)(hx:bad (T.subs 1 x)=false)(hy:bad (T.subs 1 y)=false)(h60:x.size+y.size<=60):
 (t.sub (ofS s)).size<=300000000000/\(u.sub (ofS s)).size<=300000000000/\t.size<=300000000000/\u.size<=300000000000:=by
 obtain⟨⟨n,hn,e⟩,⟨n',hn',e'⟩⟩:=h.part (t,u) (by simp);obtain⟨g1,g2⟩:=h.good (t,u) (by simp);dsimp only at e e' g1 g2;have h1:=h.small hx hy h60 hn;have h2:=h.small hx hy h60 hn';rw[e] at h1;rw[e'] at h2;have h3:=aed (ofS s) t g1;have h4:=aed (ofS s) u g2;exact⟨h1,h2,by omega,by omega⟩
open Go.ChangeShapes Go.WideShapes Go.ChangeAt Go.Joins
theorem own:ownKnob Tryz.prog.godebug=none:=by kernel_rfl
theorem laid:laidOutB Tryz.prog=true:=by kernel_rfl
theorem ag6:Tryz.prog.cellsOf 60=2:=by kernel_rfl
theorem afU:Tryz.prog.cellsOf 3=1:=by kernel_rfl
theorem aom:Tryz.prog.cellsOf 58=1:=by kernel_rfl
section
variable {H:Type} {enc:TypeId×Value->H} {P:Program}
theorem aeF(hl:laidOutB P=true){W W':World}(hb:Below W.heap.size W W'):∀{ts:List TypeId} {vs:List Value} {ds:List (DataW H)} {ps:List MemPlace},
 (∀t∈ts,P.readableRec t=true/\t<P.types.size)->(∀x∈ps,x.block<W.heap.size)->DataW.TrodAll enc P W 0 (fun _=>true) true ts vs ds ps->DataW.TrodAll enc P W' 0 (fun b=>decide (b<W.heap.size)) true ts vs ds ps
 |[],[],[],_,_,_,h=>h
 |t::_,_::_,_::_,_,ht,hlt,⟨p,q,h1,h2,e⟩=>by
  obtain⟨r1,r2⟩:=ht t (List.mem_cons.2 (Or.inl rfl))
  exact⟨p,q,Below.trod hl r1 r2 h1 hb (fun x hx=>hlt x (by rw[e];exact List.mem_append_left _ hx)),
   aeF hl hb (fun t ht'=>ht t (List.mem_cons.2 (Or.inr ht'))) (fun x hx=>hlt x (by rw[e];exact List.mem_append_right _ hx)) h2,e⟩
theorem am5(hl:laidOutB P=true){f:Func}{s:ChangeSpec}{W W':World}{args:Array Value}{ds gs:List (DataW H)}{before:List MemPlace}{tb:TypeId}{apart fresh handsOn:Bool}
 (hu:P.underlying tb=some .bool) (hr:f.resultTypes=#[tb]) (hv:s.vars=[])
 (hp:∀t∈f.params.toList,P.readableRec t=true/\t<P.types.size)
 (hfn:∀gs:List (DataW H),gs=[]->s.fn H (ds++gs)={ results:=[.lit (.bool true)],args:=ds})
 (hW:DataW.Whole enc P f.params.toList s.vars apart W args.toList ds gs before) (hb:Below W.heap.size W W'):
 s.post enc P f apart fresh handsOn false W args (.bool true) W':=by
 have hW':=hW;obtain⟨p,q,hA,hV,rfl,_,_⟩:=hW;rw[hv] at hV;obtain⟨rfl,rfl⟩:=trodVars_none hV;have e:=hfn [] rfl;refine⟨ds,[],p++[],[],p,[],hW',?_,?_,?_,hb.frame _,fun h=>by cases h⟩
 ·rw[e,hr];exact trodAll_cons_mk (p:=[]) (p':=[]) (shut_bool hu true) trodAll_mk0
 ·rw[e];exact aeF hl hb hp (fun x hx=>by simpa using hW'.lt x (List.mem_append_left _ hx)) hA
 ·rw[e,hv];rfl
end
theorem asn{aM:Nat}{w:World}{b:Nat}:∀(n:Nat) (o:Nat),(∀i,i<n->∃t,IsT aM w t b (o+i*2))->∃ts:List T,ts.length=n/\aar aM w ts b o:=by
 intro n
 induction n with
 |zero=>intro o _;exact⟨[],rfl,trivial⟩
 |succ n ih=>
  intro o h;obtain⟨t,ht⟩:=h 0 (by omega)
  obtain⟨ts,hl,hr⟩:=ih (o+2) (fun i hi=>by
   obtain⟨s,hs⟩:=h (i+1) (by omega);exact⟨s,by rw[show o+2+i*2=o+(i+1)*2 from by omega];exact hs⟩)
  exact⟨t::ts,by simp[hl],by simp only[aar];exact⟨by simpa using ht,hr⟩⟩
theorem aeG(b o k:Nat):(⟨b,o,none⟩:Addr).add k=⟨b,o+k,none⟩:=by
 unfold Addr.add;split<;>simp_all
theorem acO{w:World}{b o:Nat}{v:Value}(h:w.cell? ⟨b,o,none⟩=some v):b<w.heap.size:=by
 unfold World.cell? at h;cases hh:w.heap[b]? with
 |none=>simp[hh] at h
 |some x=>exact(aj.1 hh).1
section
variable {H:Type} {enc:TypeId×Value->H} {w:World} {sp:Nat->Bool} {hd:Bool}
theorem aiu:∀(n:Nat),
 (∀{cs:List Value} {x:DataW H×List MemPlace},DataW.trod enc Tryz.prog w 0 sp hd n 60 cs=some x->∃(t:T) (a:Option Addr) (c:Nat),cs=[.int .i64 t.head,.slice a t.args.length c]/\(Lit.int .i64 t.head).wf=true/\aab w.heap.size w t.args a c)/\
 (∀{cs:List Value} {x:DataW H×List MemPlace},DataW.trod enc Tryz.prog w 0 sp hd n 58 cs=some x->∃(ts:List T) (a:Option Addr) (c:Nat),cs=[.slice a ts.length c]/\aab w.heap.size w ts a c):=by
 intro n
 induction n with
 |zero=>exact⟨fun h=>by simp[DataW.trod] at h,fun h=>by simp[DataW.trod] at h⟩
 |succ n ih=>
  obtain⟨ih1,ih2⟩:=ih;constructor
  ·intro cs x h;obtain⟨xs,m,hm,_,hl,hxs,hf⟩:=DataW.trod_struct Tryz.underlying60 h;obtain rfl:n=m:=by omega
   rw[ag6] at hl
   match cs,hl with
   |[c0,c1],_=>
    match xs,hxs with
    |[y0,y1],_=>
     have h0:=hf 0 _ rfl;have h1:=hf 1 _ rfl;simp[afU,aom] at h0 h1;obtain⟨k,e0,_,wf⟩:=DataW.trod_int Tryz.underlying3 h0;obtain⟨ts,a,c,e1,hA⟩:=ih2 h1;simp at e0 e1;subst e0 e1;exact⟨.node k ts,a,c,rfl,wf,hA⟩
  ·intro cs x h
   rcases DataW.trod_slice Tryz.underlying58 h with⟨rfl,_⟩|⟨a,len,cap,elems,rest,m,hm,rfl,_,_,hlc,hcm,hel,hcell,_,_⟩
   ·exact⟨[],none,0,rfl,⟨af _,by simp[maxLen],.inl rfl⟩⟩
   ·obtain rfl:n=m:=by omega
    cases len with
    |zero=>exact⟨[],some a,cap,rfl,⟨hlc,hcm,.inl rfl⟩⟩
    |succ len=>
     have each:∀i,i<len+1->∃(t:T) (a':Option Addr) (c:Nat),w.cell? ((a.add (i*2)).add 0)=some (.int .i64 t.head)/\w.cell? ((a.add (i*2)).add 1)=some (.slice a' t.args.length c)/\(Lit.int .i64 t.head).wf=true/\aab w.heap.size w t.args a' c:=by
      intro i hi;have h1:=hcell i hi;rw[ai (by omega),ag6,Option.bind_eq_some_iff] at h1;obtain⟨cs,hcs,ht⟩:=h1;obtain⟨t,a',c,rfl,wf,hA⟩:=ih1 ht;refine⟨t,a',c,?_,?_,wf,hA⟩
      ·exact mapM_some_get (by simpa[World.cells?] using hcs) 0 0 rfl
      ·exact mapM_some_get (by simpa[World.cells?] using hcs) 1 1 rfl
     obtain⟨b,o,spot⟩:=a
     have hspot:spot=none:=by
      obtain⟨t,a',c,h1,_⟩:=each 0 (by omega);cases spot with
      |none=>rfl
      |some k=>unfold World.cell? at h1;simp[Addr.add] at h1;split at h1<;>simp at h1
     subst hspot;simp only[aeG,Nat.add_zero] at each
     have hlt:b<w.heap.size:=by
      obtain⟨t,a',c,h1,_⟩:=each 0 (by omega);exact acO h1
     obtain⟨ts,hts,hrow⟩:=asn (aM:=w.heap.size) (w:=w) (b:=b) (len+1) o (fun i hi=>by
      obtain⟨t,a',c,h1,h2,wf,hA⟩:=each i hi;exact⟨t,aaO.2 ⟨wf,h1,a',c,h2,hA⟩⟩)
     exact⟨ts,some ⟨b,o,none⟩,cap,by rw[hts],⟨by omega,hcm,.inr ⟨b,o,rfl,hlt,hrow⟩⟩⟩
end
theorem am6:Tryz.prog.cellsOf 80=4:=by kernel_rfl
theorem aso:Tryz.prog.cellsOf 9=1:=by kernel_rfl
theorem akU:Tryz.prog.cellsOf 4=1:=by kernel_rfl
section
variable {H:Type} {enc:TypeId×Value->H} {w:World} {sp:Nat->Bool} {hd:Bool}
theorem asp{n:Nat}{cs:List Value}{x:DataW H×List MemPlace}(h:DataW.trod enc Tryz.prog w 0 sp hd n 80 cs=some x):
 ∃y:Sy,cs=y.cells/\y.wf:=by
 obtain⟨xs,m,hm,_,hl,hxs,hf⟩:=DataW.trod_struct Tryz.underlying80 h;rw[am6] at hl
 match cs,hl with
 |[c0,c1,c2,c3],_=>
  match xs,hxs with
  |[y0,y1,y2,y3],_=>
   have h0:=hf 0 _ rfl;have h1:=hf 1 _ rfl;have h2:=hf 2 _ rfl;have h3:=hf 3 _ rfl;simp[afU,aso,akU] at h0 h1 h2 h3;obtain⟨s,e0,_,ws⟩:=DataW.trod_string Tryz.underlying9 h0;obtain⟨k,e1,_,wf1⟩:=DataW.trod_int Tryz.underlying3 h1;obtain⟨d,e2,_,wf2⟩:=DataW.trod_int Tryz.underlying3 h2;obtain⟨t,e3,_⟩:=DataW.trod_bool Tryz.underlying4 h3;simp at e0 e1 e2 e3;subst e0;subst e1;subst e2;subst e3;exact⟨⟨s,k,d,t⟩,rfl,ws,wf1,wf2⟩
theorem aqf{n:Nat}{cs:List Value}{x:DataW H×List MemPlace}(h:DataW.trod enc Tryz.prog w 0 sp hd n 22 cs=some x):∃(g:Sg) (a:Option Addr) (c:Nat),cs=[.slice a g.length c]/\aaX w.heap.size w g a c:=by
 rcases DataW.trod_slice Tryz.underlying22 h with⟨rfl,_⟩|⟨a,len,cap,elems,rest,m,hm,rfl,_,_,hlc,hcm,hel,hcell,_,_⟩
 ·exact⟨[],none,0,rfl,⟨af _,by simp[maxLen],.inl rfl⟩⟩
 ·cases len with
  |zero=>exact⟨[],some a,cap,rfl,⟨hlc,hcm,.inl rfl⟩⟩
  |succ len=>
   have each:∀i,i<len+1->∃y:Sy,y.wf/\w.cell? ((a.add (i*4)).add 0)=some (.string y.name)/\w.cell? ((a.add (i*4)).add 1)=some (.int .i64 y.ar)/\w.cell? ((a.add (i*4)).add 2)=some (.int .i64 y.wt)/\w.cell? ((a.add (i*4)).add 3)=some (.bool y.tr):=by
    intro i hi;have h1:=hcell i hi;rw[ai (by omega),am6,Option.bind_eq_some_iff] at h1;obtain⟨cs,hcs,ht⟩:=h1;obtain⟨y,rfl,wf⟩:=asp ht;refine⟨y,wf,?_,?_,?_,?_⟩
    ·exact mapM_some_get (by simpa[World.cells?] using hcs) 0 0 rfl
    ·exact mapM_some_get (by simpa[World.cells?] using hcs) 1 1 rfl
    ·exact mapM_some_get (by simpa[World.cells?] using hcs) 2 2 rfl
    ·exact mapM_some_get (by simpa[World.cells?] using hcs) 3 3 rfl
   obtain⟨b,o,spot⟩:=a
   have hspot:spot=none:=by
    obtain⟨y,_,h1,_⟩:=each 0 (by omega);cases spot with
    |none=>rfl
    |some k=>unfold World.cell? at h1;simp[Addr.add] at h1;split at h1<;>simp at h1
   subst hspot;simp only[aeG,Nat.add_zero] at each
   have hlt:b<w.heap.size:=by
    obtain⟨y,_,h1,_⟩:=each 0 (by omega);exact acO h1
   have adn:∀(n o:Nat),(∀i,i<n->∃y:Sy,awM w y b (o+i*4))->∃g:Sg,g.length=n/\∀(j:Nat) (y:Sy),g[j]? =some y->awM w y b (o+j*4):=by
    intro n
    induction n with
    |zero=>intro o _;exact⟨[],rfl,by simp⟩
    |succ n ih=>
     intro o h;obtain⟨z,hz⟩:=h 0 (by omega)
     obtain⟨zs,hl,hr⟩:=ih (o+4) (fun i hi=>by
      obtain⟨y,hy⟩:=h (i+1) (by omega);exact⟨y,by rw[show o+4+i*4=o+(i+1)*4 from by omega];exact hy⟩)
     refine⟨z::zs,by simp[hl],fun j y hj=> ?_⟩;cases j with
     |zero=>simp at hj;subst hj;simpa using hz
     |succ j=>rw[show o+(j+1)*4=o+4+j*4 from by omega];exact hr j y (by simpa using hj)
   obtain⟨g,hl,hr⟩:=adn (len+1) o each;exact⟨g,some ⟨b,o,none⟩,cap,by rw[hl],⟨by omega,hcm,.inr ⟨b,o,rfl,hlt,hr⟩⟩⟩
theorem aqg{r:Reach}{b0:Nat}{v:Value}{d:DataW H}{p:List MemPlace}(hv:Value.okWide Tryz.prog w r b0 22 v)(h:DataW.Trod enc Tryz.prog w 0 sp hd 22 v d p):
 ∃(g:Sg) (a:Option Addr) (c:Nat),v= .slice a g.length c/\aaX w.heap.size w g a c:=by
 obtain⟨a,len,cap,rfl⟩:=okWide_slice Tryz.underlying22 hv;obtain⟨n,hn⟩:=h;obtain⟨g,a',c,e,hA⟩:=aqf hn;simp[Value.cells] at e;obtain⟨rfl,rfl,rfl⟩:=e;exact⟨g,a,cap,rfl,hA⟩
end
end Go.Proofs.YtabfapijgfjflaaGreat
