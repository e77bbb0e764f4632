import Derived.Test.YtabfapijgfjflaaGreatMQBh
import Derived.Test.YtabfapijgfjflaaGreatMQBd
import Derived.Test.YtabfapijgfjflaaGreatMQBa
import Derived.Test.YtabfapijgfjflaaGreatMQBc
import Derived.Deep.AppendLies
import Derived.Maps.AppendAt
import Derived.Laws.AppendOwnNone
import Derived.StillTailTactics
import Derived.IntWalk
import Derived.Test.YtabfapijgfjflaaGreatMAl
set_option linter.unusedVariables false
set_option linter.unusedSimpArgs false
set_option maxRecDepth 100000
set_option maxHeartbeats 4000000
namespace Go.Proofs.YtabfapijgfjflaaGreat
open Go.RowKit
theorem aal.append{ok:Nat->Prop}{w:World}{us:List T}{ys:List Value}(h2:aal ok w us ys):∀{ts:List T} {xs:List Value},aal ok w ts xs->aal ok w (ts++us) (xs++ys)
 |[],[],_=>h2
 |_::_,_::_::_,⟨p1,p2,p3,p4⟩=>⟨p1,p2,p3,aal.append h2 p4⟩
 |[],_::_,h=>h.elim
 |_::_,[],h=>h.elim
 |_::_,[_],h=>h.elim
def OA(aN:Nat)(v:Value)(P:List T)(W:World):Prop:=∃xs,W.ownsRow aN 60 2 v P.length xs/\aal (· <aN) W P xs
theorem OA.nil(aN:Nat)(W:World):OA aN (.slice none 0 0) [] W:=⟨[],⟨by simp,.inl ⟨rfl,rfl⟩⟩,trivial⟩
theorem OA.kept{aN:Nat}{v:Value}{P:List T}{W W':World}(h:OA aN v P W)(hb:Below aN W W')(hk:∀g,v.ownBlock=some g->W'.heap[g]? =W.heap[g]?):OA aN v P W':=by
 obtain⟨xs,h1,h2⟩:=h;exact⟨xs,Mm.ownsRow_kept h1 hk,h2.keep (fun b hb'=>hb.block b hb') (fun _ x=>x)⟩
theorem OA.block{aN:Nat}{v:Value}{P:List T}{W:World}(h:OA aN v P W){g:Nat}(hg:v.ownBlock=some g):aN<=g/\g<W.heap.size:=by
 obtain⟨xs,h1,h2⟩:=h;obtain⟨a,b,_⟩:=Mm.rowBlock h1 hg;exact⟨a,b⟩
theorem OA.args{aN:Nat}{v:Value}{P:List T}{W:World}(h:OA aN v P W)(hn:aN<=W.heap.size):∃a c,v= .slice a P.length c/\aab W.heap.size W P a c:=by
 have hbl:=fun g (hg:v.ownBlock=some g)=>h.block hg;obtain⟨xs,h1,h2⟩:=h;obtain⟨a,c,e,hA⟩:=ael (ok':=(· <W.heap.size)) h1 h2 (fun b hb=>aF hb hn) (fun g hg=>(hbl g hg).2);exact⟨a,c,e,aao.1 hA⟩
theorem OA.later{aN:Nat}{v:Value}{P:List T}{W W':World}(h:OA aN v P W)(hn:aN<=W.heap.size)(hb:Below W.heap.size W W'):OA aN v P W':=h.kept (hb.mono hn) (fun g hg=>hb.block g (h.block hg).2)
def Src(aN:Nat)(w:World)(ts:List T)(a:Option Addr)(c:Nat):Prop:=
 (a=none->c=0/\ts=[])/\∃news,aal (· <aN) w ts news/\(∀u∈news,u.oneCell'=true)/\∀ad,a=some ad->∀j u,news[j]? =some u->w.cell? (ad.add j)=some u
theorem Src.of_args{aN:Nat}{w:World}{ts:List T}{a:Option Addr}{c:Nat}(hA:aab aN w ts a c)(hnil:a=none->c=0):Src aN w ts a c:=by
 refine⟨fun h=>⟨hnil h,?_⟩,?_⟩
 ·rcases hA.2.2 with h'|⟨b,o,h',_⟩
  ·exact h'
  ·rw[h] at h';cases h'
 ·rcases hA.2.2 with rfl|⟨b,o,rfl,hb,hr⟩
  ·exact⟨[],trivial,by simp,by simp⟩
  ·obtain⟨xs,h1,h2,h3⟩:=aeO ts o ((aaF ts).2 hr);exact⟨xs,h1,h3,fun ad e j u hj=>by cases e;rw[aaB];exact h2 j u hj⟩
theorem Src.of_one{aN:Nat}{w:World}{x:T}{e:Option Addr}{f:Nat}(hw:(Lit.int .i64 x.head).wf=true)(hA:aab aN w x.args e f)(b:Nat)(h0:w.cell? ⟨b,0,none⟩=some (.int .i64 x.head))(h1:w.cell? ⟨b,1,none⟩=some (.slice e x.args.length f)):Src aN w [x] (some ⟨b,0,none⟩) 1:=by
 refine⟨(fun h=>by cases h),[.int .i64 x.head,.slice e x.args.length f],⟨hw,rfl,⟨e,f,rfl,aao.2 hA⟩,trivial⟩,?_,fun ad e' j u hj=> ?_⟩
 ·intro u hu;simp at hu;rcases hu with rfl|rfl<;>rfl
 ·cases e';rw[aaB,Nat.zero_add]
  match j,hj with
  |0,hj=>simp at hj;subst hj;exact h0
  |1,hj=>simp at hj;subst hj;exact h1
  |j+2,hj=>simp at hj
theorem aaJ{w:World}{ops:Array Oper}{rest:List Oper}{o:Oper}{a:Act}{Q:Exit->Act->World->Prop}(hgd:o.guard=none)(s x:Operand)
 (ho:o.op= .call { callee:= .builtin .append,args:=#[s,x],argTypes:=#[58,58]}) (aN:Nat) (v:Value) (P:List T) (hs:a.eval s=v) (hO:OA aN v P w) (hn:aN<=w.heap.size)
 (ts:List T) (a':Option Addr) (c':Nat) (hx:a.eval x= .slice a' ts.length c') (hS:Src aN w ts a' c') (hl:P.length+ts.length<=10000000)
 (h:∀v' w',OA aN v' (P++ts) w'->w.grownBy w' v.ownBlock->(v'.ownBlock=v.ownBlock\/v'.ownBlock=some w.heap.size)->wpList Tryz.prog ops Q rest (a.put o.dst v') w'):wpList Tryz.prog ops Q (o::rest) a w:=by
 obtain⟨i0,hi,hz0,hz1,hz2⟩:=info_parts acX;obtain⟨xs,hown,hrv⟩:=hO;obtain⟨hnone,news,hnv,h1,hcl⟩:=hS;cases a' with
 |none=>
  obtain⟨rfl,rfl⟩:=hnone rfl;refine wpList_append_own_none hgd s x 58 ho aN 60 i0 2 Tryz.underlying58 hi v P.length xs hs hown hx ?_;exact h v w ⟨xs,by simpa using hown,by simpa using hrv⟩ ⟨rfl,rfl,rfl,af _,fun _ _ _=>rfl⟩ (.inl rfl)
 |some ad=>
  have hnl:news.length=ts.length*2:=hnv.length;obtain⟨v',w',hr,h2,h3,_,h5⟩:=run_append_own_at (P:=Tryz.prog) w aN 58 o.type 60 i0 (.agg #[.int .i64 0,.slice none 0 0]) 2 32 Tryz.underlying58 hi hz0 hz1 hz2 rfl (by decide) v P.length xs hown ad ts.length c' news hnl (hcl ad rfl) h1 (by unfold maxLen;omega) (by omega) hn;refine wpList_plain hgd fun K hK=> ?_;unfold Oper.wp execOp;simp only[ho,resolve,invoke,builtin,Sem.run_bind,Sem.run_pure,Result.andThen_ok,List.map_toArray,List.map_cons,List.map_nil,hs,hx,hr];refine hK _ _ (h v' w' ⟨xs++news,by simpa using h2,?_⟩ h3 h5);have hrow:=hrv
  have hb:∀b,b<aN->w'.heap[b]? =w.heap[b]? :=fun b hb=>h3.block b (by omega) (fun e=>by
   have:=Mm.rowBlock hown e.symm;omega)
  exact aal.append (hnv.keep hb (fun _ x=>x)) (hrv.keep hb (fun _ x=>x))
def sub(a b:List T)(z:T):Nat:=a.count z-b.count z
structure WcC (A0 B0 X Y P Q:List T):Prop where
 p:∀z,P.count z+sub X Y z=sub A0 B0 z
 q:∀z,Q.count z+sub Y X z=sub B0 A0 z
theorem arE.head{x:T}{X:List T}(h:arE (x::X)){z:T}(hz:z∈x::X):0<=T.cmp x z:=by
 rcases List.mem_cons.1 hz with rfl|hz
 ·rw[T.cmp_self];exact Int.le_refl _
 ·exact(List.pairwise_cons.1 h).1 z hz
theorem arE.tail{x:T}{X:List T}(h:arE (x::X)):arE X:=(List.pairwise_cons.1 h).2
theorem arF{x y:T}{Y:List T}(h:arE (y::Y))(hc:0<T.cmp x y):x∉y::Y:=fun hm=>by
 have h1:=h.head hm;have h2:=T.cmp_neg x y;omega
theorem ao9{x y:T}{X:List T}(h:arE (x::X))(hc:T.cmp x y<0):y∉x::X:=fun hm=>by
 have:=h.head hm;omega
section
variable {A0 B0 X Y P Q:List T} {x y:T}
theorem WcC.more(h:WcC A0 B0 (x::X) Y P Q)(hn:x∉Y):WcC A0 B0 X Y (P++[x]) Q:=by
 have h0:=List.count_eq_zero.2 hn;refine⟨fun z=> ?_,fun z=> ?_⟩
 ·have:=h.p z;unfold sub at this ⊢;rw[List.count_append,List.count_singleton];rw[List.count_cons] at this;by_cases e:x=z
  ·subst e;simp at this ⊢;omega
  ·simp[e] at this ⊢;omega
 ·have:=h.q z;unfold sub at this ⊢;rw[List.count_cons] at this;by_cases e:x=z
  ·subst e;simp at this ⊢;omega
  ·simp[e] at this ⊢;omega
theorem WcC.both(h:WcC A0 B0 (x::X) (x::Y) P Q):WcC A0 B0 X Y P Q:=by
 refine⟨fun z=> ?_,fun z=> ?_⟩
 ·have:=h.p z;unfold sub at this ⊢;rw[List.count_cons,List.count_cons] at this;omega
 ·have:=h.q z;unfold sub at this ⊢;rw[List.count_cons,List.count_cons] at this;omega
theorem WcC.fin(h:WcC A0 B0 X Y P Q)(he:X=[]\/Y=[]):(∀z,(P++X).count z=sub A0 B0 z)/\(∀z,(Q++Y).count z=sub B0 A0 z):=by
 refine⟨fun z=> ?_,fun z=> ?_⟩
 ·rw[←h.p z,List.count_append];unfold sub
  rcases he with rfl|rfl<;>simp
 ·rw[←h.q z,List.count_append];unfold sub
  rcases he with rfl|rfl<;>simp
end
structure Lft (aN:Nat) (v:Value) (X:List T) (W:World):Prop where
 form:∃a c,v= .slice a X.length c/\aab aN W X a c/\(a=none->c=0)
 desc:arE X
 size:∀t∈X,t.size<=1000000000000
theorem Lft.below{aN:Nat}{v:Value}{X:List T}{W W':World}(h:Lft aN v X W)(hb:Below aN W W'):Lft aN v X W':=by
 obtain⟨⟨a,c,e,h1,h2⟩,h3,h4⟩:=h;exact⟨⟨a,c,e,h1.below hb,h2⟩,h3,h4⟩
theorem Lft.tail{aN:Nat}{x:T}{X:List T}{W:World}{b o c:Nat}(h:Lft aN (.slice (some ⟨b,o,none⟩) (x::X).length c) (x::X) W):Lft aN (.slice (some ⟨b,if c=1 then o else o+2,none⟩) X.length (c-1)) X W:=by
 obtain⟨⟨a,c',e,h1,h2⟩,h3,h4⟩:=h;simp only[Value.slice.injEq,true_and] at e;obtain⟨rfl,rfl⟩:=e;have:=h1.tail (j:=1) (by simp);exact⟨⟨_,_,rfl,by simpa using this,fun e=>by cases e⟩,h3.tail,fun t ht=>h4 t (aH _ ht)⟩
structure WcI (A0 B0:List T) (aN:Nat) (w:World) (av bv ov pv:Value) (X Y P Q:List T) (wr:World):Prop where
 x:Lft aN av X wr
 y:Lft aN bv Y wr
 p:OA aN ov P wr
 q:OA aN pv Q wr
 ne:∀g,ov.ownBlock=some g->pv.ownBlock≠some g
 c:WcC A0 B0 X Y P Q
 l1:P.length+X.length<=A0.length
 l2:Q.length+Y.length<=B0.length
 b:Below w.heap.size w wr
 n:w.heap.size<=aN/\aN<=wr.heap.size
theorem WcC.swap{A0 B0 X Y P Q:List T}(h:WcC A0 B0 X Y P Q):WcC B0 A0 Y X Q P:=⟨h.q,h.p⟩
section
variable {A0 B0 X Y P Q:List T} {aN:Nat} {w wr w3 w':World} {av bv ov pv:Value} {x y:T}
theorem WcI.swap(h:WcI A0 B0 aN w av bv ov pv X Y P Q wr):WcI B0 A0 aN w bv av pv ov Y X Q P wr:=⟨h.y,h.x,h.q,h.p,fun g h1 h2=>h.ne g h2 h1,h.c.swap,h.l2,h.l1,h.b,h.n⟩
theorem WcI.later(h:WcI A0 B0 aN w av bv ov pv X Y P Q wr)(hb:Below wr.heap.size wr w'):WcI A0 B0 aN w av bv ov pv X Y P Q w':=
 ⟨h.x.below (hb.mono h.n.2),h.y.below (hb.mono h.n.2),h.p.later h.n.2 hb,h.q.later h.n.2 hb,h.ne,h.c,h.l1,h.l2,h.b.trans (hb.mono h.b.size),⟨h.n.1,aE h.n.2 hb.size⟩⟩
theorem WcI.both{b1 o1 c1 b2 o2 c2:Nat}(h:WcI A0 B0 aN w (.slice (some ⟨b1,o1,none⟩) (x::X).length c1) (.slice (some ⟨b2,o2,none⟩) (x::Y).length c2) ov pv (x::X) (x::Y) P Q wr):
 WcI A0 B0 aN w (.slice (some ⟨b1,if c1=1 then o1 else o1+2,none⟩) X.length (c1-1)) (.slice (some ⟨b2,if c2=1 then o2 else o2+2,none⟩) Y.length (c2-1)) ov pv X Y P Q wr:=
 ⟨h.x.tail,h.y.tail,h.p,h.q,h.ne,h.c.both,by have:=h.l1;simp at this;omega,by have:=h.l2;simp at this;omega,h.b,h.n⟩
theorem WcI.grow{v':Value}{P':List T}(h:WcI A0 B0 aN w av bv ov pv X Y P Q wr)(hO:OA aN v' P' w')(hg:wr.grownBy w' ov.ownBlock)(hv:v'.ownBlock=ov.ownBlock\/v'.ownBlock=some wr.heap.size):
 Lft aN av X w'/\Lft aN bv Y w'/\OA aN pv Q w'/\(∀g,v'.ownBlock=some g->pv.ownBlock≠some g)/\Below w.heap.size w w'/\aN<=w'.heap.size/\Below aN wr w':=by
 have hb:Below aN wr w':=(ag aN wr).grown hg h.n.2 (fun k e=>(h.p.block e).1);refine⟨h.x.below hb,h.y.below hb,h.q.kept hb (fun g e=>hg.block g (h.q.block e).2 (fun e'=>h.ne g e'.symm e)),fun g e e'=> ?_,h.b.trans (hb.mono h.n.1),aE h.n.2 hg.size,hb⟩
 rcases hv with hv|hv
 ·exact h.ne g (hv▸e) e'
 ·rw[hv] at e;cases e;have:=(h.q.block e').2;omega
theorem WcI.more{b1 o1 c1:Nat}{v':Value}(h:WcI A0 B0 aN w (.slice (some ⟨b1,o1,none⟩) (x::X).length c1) bv ov pv (x::X) Y P Q wr)(hn:x∉Y)(hO:OA aN v' (P++[x]) w')(hg:wr.grownBy w' ov.ownBlock)(hv:v'.ownBlock=ov.ownBlock\/v'.ownBlock=some wr.heap.size):
 WcI A0 B0 aN w (.slice (some ⟨b1,if c1=1 then o1 else o1+2,none⟩) X.length (c1-1)) bv v' pv X Y (P++[x]) Q w':=by
 obtain⟨k1,k2,k3,k4,k5,k6,_⟩:=h.grow hO hg hv;exact⟨k1.tail,k2,hO,k3,k4,h.c.more hn,by have:=h.l1;simp at this ⊢;omega,h.l2,k5,h.n.1,k6⟩
end
def aq4:Value->Nat
 | .slice _ n _=>n
 |_=>0
def apa(A0 B0:List T)(w:World)(e:Ending)(w':World):Prop:=
 ∃us vs a1 c1 a2 c2,e= .returned (.tuple #[.slice a1 us.length c1,.slice a2 vs.length c2])/\(∀z,us.count z=sub A0 B0 z)/\(∀z,vs.count z=sub B0 A0 z)/\aab w'.heap.size w' us a1 c1/\aab w'.heap.size w' vs a2 c2/\us.length<=A0.length/\vs.length<=B0.length/\Below w.heap.size w w'
theorem aeW(A0 B0:List T)(hla:A0.length<=1000000)(hlb:B0.length<=1000000)(hsa:∀t∈A0,t.size<=1000000000000)(hsb:∀t∈B0,t.size<=1000000000000)(aM:Nat)(pa:Option Addr)(ca:Nat)(pb:Option Addr)(cb:Nat)(w:World)(hn:aM<=w.heap.size)(hA:aab aM w A0 pa ca)(hB:aab aM w B0 pb cb):
 Calls Tryz.prog 221 #[.slice pa A0.length ca,.slice pb B0.length cb] w (apa A0 B0 w):=by
 have H1:=ae (acD A0 (by omega) hsa aM pa ca w hn hA);have H2:=ae (fun(W:World) (hW:Below w.heap.size w W)=>acD B0 (by omega) hsb aM pb cb W (aE hn hW.size) (hB.below (hW.mono hn)));clear hA hB;obtain⟨i0,hi,hz0,hz1,hz2⟩:=info_parts acX;go_enter Tryz.func221,Tryz.ntmps221
 go_wp2_with fail
 refine H1.out.mono ?_;rintro e w1 ⟨X0,a1,c1,rfl,hp1,hd1,hA1,hn1,hb1⟩;have HX:=ae (And.intro hp1 (And.intro hd1 (And.intro hA1 (And.intro hn1 hb1))));have H2b:=ae (H2.out w1 hb1);clear hp1 hd1 hA1 hn1 hb1
 go_wp2_with fail
 refine H2b.out.mono ?_;rintro e w2 ⟨Y0,a2,c2,rfl,hp2,hd2,hA2,hn2,hb2⟩
 have HI:=ae (show ∃X Y P Q,WcI A0 B0 w2.heap.size w (.slice a1 X0.length c1) (.slice a2 Y0.length c2) (.slice none 0 0) (.slice none 0 0) X Y P Q w2 from by
  obtain⟨hp1,hd1,hA1,hn1,hb1⟩:=HX.out;have hb12:Below w.heap.size w w2:=hb1.trans (hb2.mono hb1.size);refine⟨X0,Y0,[],[],⟨⟨⟨a1,c1,rfl,(hA1.below hb2).mono hb2.size,hn1⟩,hd1,fun t ht=>hsa t (hp1.mem_iff.1 ht)⟩,⟨⟨a2,c2,rfl,hA2,hn2⟩,hd2,fun t ht=>hsb t (hp2.mem_iff.1 ht)⟩,OA.nil _ _,OA.nil _ _,fun g hg=>by simp[Value.ownBlock] at hg,⟨fun z=> ?_,fun z=> ?_⟩,?_,?_,hb12,hb12.size,af _⟩⟩
  ·simp[sub,hp1.count_eq,hp2.count_eq]
  ·simp[sub,hp1.count_eq,hp2.count_eq]
  ·rw[hp1.length_eq];simp
  ·rw[hp2.length_eq];simp)
 clear HX H1 H2 H2b hp2 hd2 hA2 hn2 hb2;go_wp2
 go_loopw [0,1,4,5] (fun av bv ov pv wr=>∃X Y P Q,WcI A0 B0 w2.heap.size w av bv ov pv X Y P Q wr) (fun av bv _ _ _=>aq4 av+aq4 bv)
 case atStart=>exact HI.out
 case round=>
  obtain⟨X,Y,P,Q,hI⟩:=hrel;have HI2:=ae hI;obtain⟨⟨⟨a1',c1',rfl,hXa,hXn⟩,_,hXs⟩,⟨⟨a2',c2',rfl,hYa,hYn⟩,_,hYs⟩,_,_,_,_,hl1,hl2,_,hnn1,hnn2⟩:=hI;have HXA:=ae (And.intro hXa (And.intro hXn hXs));have HYA:=ae (And.intro hYa (And.intro hYn hYs));have hxc:X.length<=c1'/\c1'<=maxLen:=⟨hXa.1,hXa.2.1⟩;have hyc:Y.length<=c2'/\c2'<=maxLen:=⟨hYa.1,hYa.2.1⟩;unfold maxLen at hxc hyc;clear hXa hXn hXs hYa hYn hYs HI;cases X with
  |nil=>
   have hfin:=HI2.out.c.fin (.inl rfl);have HFIN:=ae hfin;clear hfin
   go_wp2_with (at_builtin;refine aaG ?_)
   refine ae ?_;refine aaJ rfl _ _ rfl w2.heap.size _ P rfl HI2.out.p HI2.out.n.2 [] _ _ rfl (Src.of_args HXA.out.1 HXA.out.2.1) (by have:=HI2.out.l1;omega) ?_;intro v5 w5 hO5 hg5 hv5;obtain⟨_,_,k3,k4,k5,k6,k7⟩:=HI2.out.grow hO5 hg5 hv5;have HO5:=ae hO5;have K:=ae (And.intro k3 (And.intro k4 (And.intro k5 (And.intro k6 k7))));clear hO5 hg5 hv5 k3 k4 k5 k6 k7
   go_wp2_with (at_builtin;refine aaG ?_)
   refine ae ?_;refine aaJ rfl _ _ rfl w2.heap.size _ Q rfl K.out.1 K.out.2.2.2.1 Y _ _ rfl (Src.of_args (HYA.out.1.below K.out.2.2.2.2) HYA.out.2.1) (by have:=HI2.out.l2;omega) ?_;intro v6 w6 hO6 hg6 hv6;have hb56:Below w2.heap.size w5 w6:=(ag _ w5).grown hg6 K.out.2.2.2.1 (fun k e=>(K.out.1.block e).1);have hO5':=HO5.out.kept hb56 (fun q e=>hg6.block q (HO5.out.block e).2 (fun e'=>K.out.2.1 q e e'.symm));have hn6:w2.heap.size<=w6.heap.size:=aE K.out.2.2.2.1 hg6.size;obtain⟨a5,c5,rfl,hA5⟩:=hO5'.args hn6;obtain⟨a6,c6,rfl,hA6⟩:=hO6.args hn6
   have HF:=ae (show apa A0 B0 w (.returned (.tuple #[.slice a5 (P++[]).length c5,.slice a6 (Q++Y).length c6])) w6 from
    ⟨P++[],Q++Y,a5,c5,a6,c6,rfl,HFIN.out.1,HFIN.out.2,hA5,hA6,by have:=HI2.out.l1;simp at this ⊢;omega,by have:=HI2.out.l2;simp at this ⊢;omega,K.out.2.2.1.trans (hb56.mono HI2.out.n.1)⟩)
   clear hO6 hg6 hv6 hb56 hO5' hn6 hA5 hA6;go_wp2;refine bodyPost_ret (v:= .tuple #[.slice a5 (P++[]).length c5,.slice a6 (Q++Y).length c6]) (by simp[results,Tryz.results221,go_sem]) rfl ?_;exact HF.out
  |cons x X=>
   cases Y with
   |nil=>
    have hp1:(0:Int)<(((x::X).length:Nat):Int):=by simp
    have hfin:=HI2.out.c.fin (.inr rfl);have HFIN:=ae hfin;clear hfin
    go_wp2_with (at_builtin;refine aaG ?_)
    refine ae ?_;refine aaJ rfl _ _ rfl w2.heap.size _ P rfl HI2.out.p HI2.out.n.2 (x::X) _ _ rfl (Src.of_args HXA.out.1 HXA.out.2.1) (by have:=HI2.out.l1;omega) ?_;intro v5 w5 hO5 hg5 hv5;obtain⟨_,_,k3,k4,k5,k6,k7⟩:=HI2.out.grow hO5 hg5 hv5;have HO5:=ae hO5;have K:=ae (And.intro k3 (And.intro k4 (And.intro k5 (And.intro k6 k7))));clear hO5 hg5 hv5 k3 k4 k5 k6 k7
    go_wp2_with (at_builtin;refine aaG ?_)
    refine ae ?_;refine aaJ rfl _ _ rfl w2.heap.size _ Q rfl K.out.1 K.out.2.2.2.1 [] _ _ rfl (Src.of_args (HYA.out.1.below K.out.2.2.2.2) HYA.out.2.1) (by have:=HI2.out.l2;omega) ?_;intro v6 w6 hO6 hg6 hv6;have hb56:Below w2.heap.size w5 w6:=(ag _ w5).grown hg6 K.out.2.2.2.1 (fun k e=>(K.out.1.block e).1);have hO5':=HO5.out.kept hb56 (fun q e=>hg6.block q (HO5.out.block e).2 (fun e'=>K.out.2.1 q e e'.symm));have hn6:w2.heap.size<=w6.heap.size:=aE K.out.2.2.2.1 hg6.size;obtain⟨a5,c5,rfl,hA5⟩:=hO5'.args hn6;obtain⟨a6,c6,rfl,hA6⟩:=hO6.args hn6
    have HF:=ae (show apa A0 B0 w (.returned (.tuple #[.slice a5 (P++(x::X)).length c5,.slice a6 (Q++[]).length c6])) w6 from
     ⟨P++(x::X),Q++[],a5,c5,a6,c6,rfl,HFIN.out.1,HFIN.out.2,hA5,hA6,by have:=HI2.out.l1;simp at this ⊢;omega,by have:=HI2.out.l2;simp at this ⊢;omega,K.out.2.2.1.trans (hb56.mono HI2.out.n.1)⟩)
    clear hO6 hg6 hv6 hb56 hO5' hn6 hA5 hA6;go_wp2;refine bodyPost_ret (v:= .tuple #[.slice a5 (P++(x::X)).length c5,.slice a6 (Q++[]).length c6]) (by simp[results,Tryz.results221,go_sem]) rfl ?_;exact HF.out
   |cons y Y=>
    obtain⟨b1,o1,x',e1,f1,rfl,hb1,hx1,hxw,hxc0,hxc1,hxA⟩:=HXA.out.1.elem (i:=0) (by simp);obtain⟨b2,o2,y',e2,f2,rfl,hb2,hy1,hyw,hyc0,hyc1,hyA⟩:=HYA.out.1.elem (i:=0) (by simp);simp only[List.getElem?_cons_zero,aJ] at hx1 hy1;subst hx1 hy1;simp only[Nat.zero_mul,Nat.add_zero] at hxc0 hxc1 hyc0 hyc1;have hb1w:b1<wr.heap.size:=by omega
    have hb2w:b2<wr.heap.size:=by omega
    have HC:=ae (agt x y (HXA.out.2.2 x (List.mem_cons_self ..)) (HYA.out.2.2 y (List.mem_cons_self ..)) w2.heap.size e1 f1 e2 f2 wr.drew hnn2 hxw hyw (hxA.below (ag _ _).drew) (hyA.below (ag _ _).drew));have HXW:=ae (And.intro hxw hxA);have HYW:=ae (And.intro hyw hyA);have hp1:(0:Int)<(((x::X).length:Nat):Int):=by simp
    have hp2:(0:Int)<(((y::Y).length:Nat):Int):=by simp
    clear hxA hyA hxw hyw;go_wp2
    go_still_tail 6,(by kernel_rfl)
    change wpList _ _ _ _ _ wr.drew
    go_wp2_with fail
    refine HC.out.mono ?_;rintro e w3 ⟨rfl,hb3⟩;have hB3:Below wr.heap.size wr w3:=(ag _ _).drew.trans hb3;have HB3:=ae hB3;have gx0:w3.cell? ⟨b1,o1,none⟩=some (.int .i64 x.head):=(hB3.cell (p:=⟨b1,o1,none⟩) hb1w).trans hxc0;have gx1:w3.cell? ⟨b1,o1+1,none⟩=some (.slice e1 x.args.length f1):=(hB3.cell (p:=⟨b1,o1+1,none⟩) hb1w).trans hxc1;have gy0:w3.cell? ⟨b2,o2,none⟩=some (.int .i64 y.head):=(hB3.cell (p:=⟨b2,o2,none⟩) hb2w).trans hyc0;have gy1:w3.cell? ⟨b2,o2+1,none⟩=some (.slice e2 y.args.length f2):=(hB3.cell (p:=⟨b2,o2+1,none⟩) hb2w).trans hyc1;have hb1w':b1<w3.heap.size:=aF hb1w hB3.size;have hb2w':b2<w3.heap.size:=aF hb2w hB3.size;have hxl:(1:Int)<=((X.length:Nat):Int)+1:=by omega
    have hyl:(1:Int)<=((Y.length:Nat):Int)+1:=by omega
    clear hb3 hB3 hxc0 hxc1 hyc0 hyc1 hb1w hb2w;obtain⟨r,hr⟩:∃r,T.cmp x y=r:=⟨_,rfl⟩;have HR:=ae hr;rw[hr];clear hr;by_cases r1:0<r
    ·have hni:=arF HI2.out.y.desc (by rw[HR.out];exact r1);have HNI:=ae hni;have hal:Below wr.heap.size wr (w3.alloc (.cells #[.int .i64 x.head,.slice e1 x.args.length f1] 60)):=HB3.out.alloc HB3.out.size _;have HI4:=ae (HI2.out.later hal)
     have hsrc:Src w2.heap.size (w3.alloc (.cells #[.int .i64 x.head,.slice e1 x.args.length f1] 60)) [x] (some ⟨w3.heap.size,0,none⟩) 1:=
      Src.of_one HXW.out.1 (HXW.out.2.below (hal.mono hnn2)) w3.heap.size (by simp[go_sem]) (by simp[go_sem])
     have HSRC:=ae hsrc;clear hni hal hsrc
     go_wp2_with (at_builtin;refine aaG ?_)
     refine ae ?_;refine aaJ rfl _ _ rfl w2.heap.size _ P rfl HI4.out.p HI4.out.n.2 [x] _ _ rfl HSRC.out (by have:=HI4.out.l1;simp at this ⊢;omega) ?_;intro v5 w5 hO5 hg5 hv5;have hI6:=HI4.out.more (c1:=c1') (HNI.out) hO5 hg5 hv5;clear hO5 hg5 hv5;by_cases z1:c1'=1
     ·subst z1;rw[if_pos rfl] at hI6;have HI6:=ae hI6;clear hI6;go_wp2
      go_roundw
      case rel=>exact⟨X,y::Y,P++[x],Q,HI6.out⟩
      case measure=>simp[aq4]
     ·rw[if_neg z1] at hI6;have HI6:=ae hI6;clear hI6;go_wp2
      go_roundw
      case rel=>exact⟨X,y::Y,P++[x],Q,HI6.out⟩
      case measure=>simp[aq4]
    ·by_cases r2:r<0
     ·have hni:=ao9 HI2.out.x.desc (by rw[HR.out];exact r2);have HNI:=ae hni;have hal:Below wr.heap.size wr (w3.alloc (.cells #[.int .i64 y.head,.slice e2 y.args.length f2] 60)):=HB3.out.alloc HB3.out.size _;have HI4:=ae (HI2.out.later hal)
      have hsrc:Src w2.heap.size (w3.alloc (.cells #[.int .i64 y.head,.slice e2 y.args.length f2] 60)) [y] (some ⟨w3.heap.size,0,none⟩) 1:=
       Src.of_one HYW.out.1 (HYW.out.2.below (hal.mono hnn2)) w3.heap.size (by simp[go_sem]) (by simp[go_sem])
      have HSRC:=ae hsrc;clear hni hal hsrc
      go_wp2_with (at_builtin;refine aaG ?_)
      refine ae ?_;refine aaJ rfl _ _ rfl w2.heap.size _ Q rfl HI4.out.swap.p HI4.out.swap.n.2 [y] _ _ rfl HSRC.out (by have:=HI4.out.l2;simp at this ⊢;omega) ?_;intro v5 w5 hO5 hg5 hv5;have hI6:=HI4.out.swap.more (c1:=c2') (HNI.out) hO5 hg5 hv5;clear hO5 hg5 hv5;by_cases z1:c2'=1
      ·subst z1;rw[if_pos rfl] at hI6;have HI6:=ae hI6;clear hI6;go_wp2
       go_roundw
       case rel=>exact⟨x::X,Y,P,Q++[y],HI6.out.swap⟩
       case measure=>simp[aq4]
      ·rw[if_neg z1] at hI6;have HI6:=ae hI6;clear hI6;go_wp2
       go_roundw
       case rel=>exact⟨x::X,Y,P,Q++[y],HI6.out.swap⟩
       case measure=>simp[aq4]
     ·have r3:r=0:=by omega
      have HXY:=ae (T.cmp_zero.1 (HR.out.trans r3));subst r3;clear r1 r2;have hxy:=HXY.out;subst hxy;have hI3:=(HI2.out.later HB3.out).both;by_cases z1:c1'=1
      ·by_cases z2:c2'=1
       ·subst z1 z2;rw[if_pos rfl,if_pos rfl] at hI3;have HI3:=ae hI3;clear hI3;go_wp2
        go_quiet (fail)
        go_wp2
        go_roundw
        case rel=>exact⟨X,Y,P,Q,HI3.out.later (acW _ _)⟩
        case measure=>simp[aq4];omega
       ·subst z1;rw[if_pos rfl,if_neg z2] at hI3;have HI3:=ae hI3;clear hI3;go_wp2
        go_quiet (fail)
        go_wp2
        go_roundw
        case rel=>exact⟨X,Y,P,Q,HI3.out.later (acW _ _)⟩
        case measure=>simp[aq4];omega
      ·by_cases z2:c2'=1
       ·subst z2;rw[if_neg z1,if_pos rfl] at hI3;have HI3:=ae hI3;clear hI3;go_wp2
        go_quiet (fail)
        go_wp2
        go_roundw
        case rel=>exact⟨X,Y,P,Q,HI3.out.later (acW _ _)⟩
        case measure=>simp[aq4];omega
       ·rw[if_neg z1,if_neg z2] at hI3;have HI3:=ae hI3;clear hI3;go_wp2
        go_quiet (fail)
        go_wp2
        go_roundw
        case rel=>exact⟨X,Y,P,Q,HI3.out.later (acW _ _)⟩
        case measure=>simp[aq4];omega
open Go.Maps
abbrev Sds:=List Int×List Int
def wS(g:Sg)(S:Sds):Int:=adS (wo g) S.1-adS (wo g) S.2
def cS(S:Sds)(v:Int):Int:=(S.1.count v:Nat)-(S.2.count v:Nat)
def pl(pos:Bool)(S:Sds)(L:List Int):Sds:=if pos then(S.1++L,S.2) else(S.1,S.2++L)
def sg(pos:Bool):Int:=if pos then 1 else-1
theorem awQ(pos:Bool)(S:Sds)(L L':List Int):pl pos (pl pos S L) L'=pl pos S (L++L'):=by
 cases pos<;>simp[pl]
theorem avm(g:Sg)(pos:Bool)(S:Sds)(L:List Int):wS g (pl pos S L)=wS g S+sg pos*adS (wo g) L:=by
 cases pos<;>simp[wS,pl,sg,acd]<;>omega
theorem apb(pos:Bool)(S:Sds)(L:List Int)(v:Int):cS (pl pos S L) v=cS S v+sg pos*(L.count v:Nat):=by
 cases pos<;>simp[cS,pl,sg,List.count_append]<;>omega
theorem agv{pos:Bool}{S:Sds}{L:List Int}{v:Int}:(v∈(pl pos S L).1\/v∈(pl pos S L).2)↔((v∈S.1\/v∈S.2)\/v∈L):=by
 cases pos
 ·simp only[pl,Bool.false_eq_true,if_false,aG];rw[or_assoc]
 ·simp only[pl,if_true,aG];rw[or_assoc,or_assoc,or_comm (a:=v∈L)]
def agw(S:Sds):Nat:=S.1.length+S.2.length
theorem adq(pos:Bool)(S:Sds)(L:List Int):agw (pl pos S L)=agw S+L.length:=by
 cases pos<;>simp[agw,pl]<;>omega
theorem amF(S:Sds)(v:Int): -(agw S:Int)<=cS S v/\cS S v<=agw S:=by
 have h1:S.1.count v<=S.1.length:=List.count_le_length;have h2:S.2.count v<=S.2.length:=List.count_le_length;unfold cS agw;omega
theorem ahW{f:Int->Int}{L:List Int}(h:∀x∈L,0<=f x/\f x<=1000):0<=adS f L/\adS f L<=1000*L.length:=by
 have:=aeR (f:=f) (left:=fun _=>false) (L:=L) h;rwa[aiT (fun _=>rfl)] at this
theorem amG{g:Sg}(hr:aan g=true){S:Sds}(h:∀v,v∈S.1\/v∈S.2->inS g v): -(1000*(agw S:Int))<=wS g S/\wS g S<=1000*(agw S:Int):=by
 have h1:=ahW (f:=wo g) (L:=S.1) (fun x hx=>by have:=acZ hr (h x (.inl hx));omega);have h2:=ahW (f:=wo g) (L:=S.2) (fun x hx=>by have:=acZ hr (h x (.inr hx));omega);unfold wS agw;omega
theorem amH(pos:Bool):sg pos=1\/sg pos= -1:=by cases pos<;>simp[sg]
def afp(W:World)(M:Nat)(S:Sds):Prop:=
 ∃(D:DataW Unit) (n:Nat),n<=agw S/\W.ownsMap Tryz.prog 3 (plainElem Tryz.prog 3) M n D/\(∀v,hwf v->Maps.has D (.int .i64 v)=decide (v<0/\(v∈S.1\/v∈S.2))/\(v<0->(v∈S.1\/v∈S.2)->∀z,D.atKey (.int .i64 v) z= .lit (.int .i64 (cS S v))))
theorem afp.lt{W:World}{M:Nat}{S:Sds}(h:afp W M S):M<W.heap.size:=by obtain⟨D,n,_,h1,_⟩:=h;exact h1.lt
theorem afp.kept{W W':World}{M:Nat}{S:Sds}(h:afp W M S)(hb:W'.heap[M]? =W.heap[M]?):afp W' M S:=by
 obtain⟨D,n,hn,⟨es,clock,hm,r⟩,h2⟩:=h;exact⟨D,n,hn,⟨es,clock,hb.trans hm,r⟩,h2⟩
theorem afp.notCells{W:World}{M:Nat}{S:Sds}(h:afp W M S){cs:Array Value}{e:TypeId}{fz:Nat×Nat}:W.heap[M]? ≠some (.cells cs e fz):=by
 obtain⟨D,n,_,⟨es,clock,hm,r⟩,h2⟩:=h;rw[hm];simp
theorem afp.look{W:World}{M:Nat}{S:Sds}(h:afp W M S){v:Int}(hv:hwf v)(h0:v<0):
 (Instr.lookup 168 (.map (some M)) (.int .i64 v) false).run Tryz.prog W= .ok (.int .i64 (cS S v)) W:=by
 obtain⟨D,n,_,h1,h3⟩:=h;have hkey:=keyOf_int_mk (P:=Tryz.prog) (k:=3) Tryz.underlying3 hv.wf;obtain⟨q1,q2⟩:=h3 v hv;obtain⟨c,hrun,hat,_⟩:=h1.lookup_int ahu Tryz.underlying168 Tryz.underlying3 (asT _) hkey;rw[hrun];by_cases hm:v∈S.1\/v∈S.2
 ·rw[q2 h0 hm] at hat;simp at hat;rw[hat]
 ·rw[Maps.atKey_of_not_has (by rw[q1];simp[hm])] at hat;simp at hat;rw[←hat]
  have:cS S v=0:=by
   unfold cS;rw[List.count_eq_zero.2 (fun e=>hm (.inl e)),List.count_eq_zero.2 (fun e=>hm (.inr e))];rfl
  rw[this]
theorem afp.put{W:World}{M:Nat}{S:Sds}(h:afp W M S){v:Int}(hv:hwf v)(h0:v<0)(pos:Bool)(hn:agw S<=1000000000000):
 ∃w',(Instr.mapUpdate 168 (.map (some M)) (.int .i64 v) (.int .i64 (cS S v+sg pos))).run Tryz.prog W= .ok () w'/\afp w' M (pl pos S [v])/\W.grownBy w' (some M):=by
 obtain⟨D,n,hn',h1,h3⟩:=h;have hkey:=keyOf_int_mk (P:=Tryz.prog) (k:=3) Tryz.underlying3 hv.wf;have hcl:=amF S v;have hsg:=amH pos;have hwc:(Lit.int .i64 (cS S v+sg pos)).wf=true:=WalkArith.wf_i64 ⟨by omega,by omega⟩;obtain⟨w',hrun,r1,r2⟩:=h1.update ahu Tryz.underlying168 (by unfold maxLen;omega) hkey (plainElem_int (H:=Unit) (P:=Tryz.prog) Tryz.underlying3 hwc);have hM:=h1.isMap;refine⟨w',hrun,⟨_,_,by rw[adq];simp only[List.length_cons,List.length_nil];omega,r1,fun x hx=> ?_⟩,r2⟩;by_cases e:x=v
 ·subst e;refine⟨by rw[Maps.has_put_same hM (show WideAt.IsKeyLit (.int .i64 x) from trivial)];simp[agv,h0],fun _ _ z=> ?_⟩;rw[Maps.atKey_put_same (k:= .int .i64 x) hM (show WideAt.IsKeyLit (.int .i64 x) from trivial) _ z,apb];simp
 ·have hne:Lit.int .i64 x≠Lit.int .i64 v:=by intro e';injection e' with _ e';exact e e'
  refine⟨by rw[Maps.has_put_other hne,(h3 x hx).1];simp[agv,e],fun hx0 hm z=> ?_⟩;rw[Maps.atKey_put_other hne,(h3 x hx).2 hx0 (by simpa[agv,e] using hm) z,apb];simp[List.count_cons,show ¬v=x from fun e'=>e e'.symm]
theorem afp.skip{W:World}{M:Nat}{S:Sds}(h:afp W M S){v:Int}(h0:0<=v)(pos:Bool):afp W M (pl pos S [v]):=by
 obtain⟨D,n,hn',h1,h3⟩:=h;refine⟨D,n,by rw[adq];omega,h1,fun x hx=> ?_⟩;obtain⟨q1,q2⟩:=h3 x hx;constructor
 ·rw[q1,Bool.eq_iff_iff,decide_eq_true_eq,decide_eq_true_eq,agv];simp only[List.mem_singleton];constructor
  ·rintro⟨a,b⟩;exact⟨a,.inl b⟩
  ·rintro⟨a,b|b⟩
   ·exact⟨a,b⟩
   ·omega
 ·intro hx0 hm z
  rw[q2 hx0 (by
   rcases agv.1 hm with hm|hm
   ·exact hm
   ·have:=List.mem_singleton.1 hm;omega) z,apb]
  simp[List.count_cons,show ¬v=x from by omega]
theorem afp.made(w:World):afp (w.alloc (.map #[] 0)) w.heap.size ([],[]):=
 ⟨.map [],0,af _,World.ownsMap_made w Tryz.prog 3 (plainElem Tryz.prog 3),fun v _=>⟨by simp;rfl,by simp⟩⟩
structure Scl (W:World) (Bs M:Nat) (g:Sg) (ga:Option Addr) (gc:Nat) (S:Sds):Prop where
 c0:W.cell? ⟨Bs,0,none⟩=some (.slice ga g.length gc)
 c1:W.cell? ⟨Bs,1,none⟩=some (.int .i64 (wS g S))
 c2:W.cell? ⟨Bs,2,none⟩=some (.map (some M))
 fz:W.frozen? ⟨Bs,1,none⟩=false
 map:afp W M S
 ok:∀h,h∈S.1\/h∈S.2->inS g h/\hwf h
structure Sfr (Bs M:Nat) (w w':World):Prop where
 os:w'.os=w.os
 tape:w'.tape=w.tape
 output:w'.output=w.output
 size:w.heap.size<=w'.heap.size
 block:∀k,k<w.heap.size->k≠Bs->k≠M->w'.heap[k]? =w.heap[k]?
theorem Sfr.refl(Bs M:Nat)(w:World):Sfr Bs M w w:=⟨rfl,rfl,rfl,af _,fun _ _ _ _=>rfl⟩
theorem Sfr.trans{Bs M:Nat}{a b c:World}(h:Sfr Bs M a b)(k:Sfr Bs M b c):Sfr Bs M a c:=
 ⟨k.os.trans h.os,k.tape.trans h.tape,k.output.trans h.output,aE h.size k.size,fun i hi h1 h2=>(k.block i (aF hi h.size) h1 h2).trans (h.block i hi h1 h2)⟩
theorem Sfr.of_below{Bs M:Nat}{w w':World}(h:Below w.heap.size w w'):Sfr Bs M w w':=⟨h.os,h.tape,h.output,h.size,fun k hk _ _=>h.block k hk⟩
theorem Sfr.below{Bs M:Nat}{w w':World}(h:Sfr Bs M w w'){B:Nat}(h1:B<=Bs)(h2:B<=M)(hB:B<=w.heap.size):Below B w w':=⟨h.os,h.tape,h.output,h.size,fun k hk=>h.block k (by omega) (by omega) (by omega)⟩
theorem Sfr.of_set(Bs M:Nat)(w:World)(o:Nat)(v:Value):Sfr Bs M w (w.setCell ⟨Bs,o,none⟩ v):=⟨rfl,rfl,rfl,by simp,fun k hk h1 _=>an _ _ _ _ (by simpa using h1)⟩
theorem Sfr.of_grown{Bs M:Nat}{w w':World}(h:w.grownBy w' (some M)):Sfr Bs M w w':=⟨h.os,h.tape,h.output,h.size,fun k hk _ h2=>h.block k hk (fun e=>h2 (Option.some.inj e))⟩
theorem Sfr.drew{Bs M:Nat}{w w':World}(h:Sfr Bs M w w'):Sfr Bs M w w'.drew:=⟨h.os,h.tape,h.output,h.size,h.block⟩
theorem Sfr.drewN{Bs M:Nat}{w w':World}(h:Sfr Bs M w w')(n:Nat):Sfr Bs M w (w'.drewN n):=⟨h.os,h.tape,h.output,h.size,h.block⟩
theorem Sfr.cell{Bs M:Nat}{w w':World}(h:Sfr Bs M w w'){b o:Nat}(hb:b<w.heap.size)(h1:b≠Bs)(h2:b≠M):w'.cell? ⟨b,o,none⟩=w.cell? ⟨b,o,none⟩:=aq (a:=⟨b,o,none⟩) (h.block b hb h1 h2)
theorem Sfr.frozen{Bs M:Nat}{w w':World}(h:Sfr Bs M w w'){b o:Nat}(hb:b<w.heap.size)(h1:b≠Bs)(h2:b≠M):w'.frozen? ⟨b,o,none⟩=w.frozen? ⟨b,o,none⟩:=by
 simp only[World.frozen?,h.block b hb h1 h2]
section
variable {W W':World} {Bs M:Nat} {g:Sg} {ga:Option Addr} {gc:Nat} {S:Sds}
theorem Scl.lt(h:Scl W Bs M g ga gc S):Bs<W.heap.size:=World.block_lt_of_cell? W ⟨Bs,0,none⟩ h.c0
theorem Scl.ne(h:Scl W Bs M g ga gc S):Bs≠M:=by
 intro e;have h1:=h.c0;have h2:=h.map;subst e;unfold World.cell? at h1;split at h1
 ·rename_i cs e fz hh;exact h2.notCells hh
 ·cases h1
theorem Scl.kept(h:Scl W Bs M g ga gc S)(h1:W'.heap[Bs]? =W.heap[Bs]?)(h2:W'.heap[M]? =W.heap[M]?):Scl W' Bs M g ga gc S:=
 ⟨(aq (a:=⟨Bs,0,none⟩) h1).trans h.c0,(aq (a:=⟨Bs,1,none⟩) h1).trans h.c1,(aq (a:=⟨Bs,2,none⟩) h1).trans h.c2,by
   have:=h.fz;simp only[World.frozen?,h1] at this ⊢;exact this,h.map.kept h2,h.ok⟩
theorem Scl.later(h:Scl W Bs M g ga gc S)(hb:Below W.heap.size W W'):Scl W' Bs M g ga gc S:=h.kept (hb.block _ h.lt) (hb.block _ h.map.lt)
theorem Scl.sym(h:Scl W Bs M g ga gc S){v:Int}(h0:0<=v)(hv:inS g v)(hw:hwf v)(pos:Bool):Scl (W.setCell ⟨Bs,1,none⟩ (.int .i64 (wS g S+sg pos*wo g v))) Bs M g ga gc (pl pos S [v]):=by
 refine⟨?_,?_,?_,?_,?_,?_⟩
 ·rw[World.cell?_setCell_other _ _ _ _ (by intro q;simp at q)];exact h.c0
 ·rw[World.cell?_setCell_same' _ _ _ (by rw[h.c1];rfl),avm];simp[adS]
 ·rw[World.cell?_setCell_other _ _ _ _ (by intro q;simp at q)];exact h.c2
 ·rw[World.frozen?_setCell];exact h.fz
 ·exact(h.map.kept (an _ _ _ _ (by simpa using h.ne.symm))).skip h0 pos
 ·intro x hx
  rcases agv.1 hx with hx|hx
  ·exact h.ok x hx
  ·rw[List.mem_singleton.1 hx];exact⟨hv,hw⟩
theorem Scl.mid(h:Scl W Bs M g ga gc S)(x:Int):(W.setCell ⟨Bs,1,none⟩ (.int .i64 x)).cell? ⟨Bs,0,none⟩=some (.slice ga g.length gc)/\(W.setCell ⟨Bs,1,none⟩ (.int .i64 x)).cell? ⟨Bs,1,none⟩=some (.int .i64 x)/\(W.setCell ⟨Bs,1,none⟩ (.int .i64 x)).cell? ⟨Bs,2,none⟩=some (.map (some M))/\(W.setCell ⟨Bs,1,none⟩ (.int .i64 x)).frozen? ⟨Bs,1,none⟩=false/\afp (W.setCell ⟨Bs,1,none⟩ (.int .i64 x)) M S:=by
 refine⟨?_,?_,?_,?_,?_⟩
 ·rw[World.cell?_setCell_other _ _ _ _ (by intro q;simp at q)];exact h.c0
 ·rw[World.cell?_setCell_same' _ _ _ (by rw[h.c1];rfl)]
 ·rw[World.cell?_setCell_other _ _ _ _ (by intro q;simp at q)];exact h.c2
 ·rw[World.frozen?_setCell];exact h.fz
 ·exact h.map.kept (an _ _ _ _ (by simpa using h.ne.symm))
theorem Scl.var(h:Scl W Bs M g ga gc S){v:Int}(h0:v<0)(hw:hwf v)(pos:Bool){W2:World}(hB:W2.heap[Bs]? =(W.setCell ⟨Bs,1,none⟩ (.int .i64 (wS g S+sg pos))).heap[Bs]?)(hm:afp W2 M (pl pos S [v])):Scl W2 Bs M g ga gc (pl pos S [v]):=by
 obtain⟨q0,q1,q2,q3,_⟩:=h.mid (wS g S+sg pos);refine⟨(aq (a:=⟨Bs,0,none⟩) hB).trans q0,?_,(aq (a:=⟨Bs,2,none⟩) hB).trans q2,?_,hm,?_⟩
 ·rw[aq (a:=⟨Bs,1,none⟩) hB,q1,avm];simp[adS,wo,h0]
 ·simp only[World.frozen?,hB] at q3 ⊢;exact q3
 ·intro x hx
  rcases agv.1 hx with hx|hx
  ·exact h.ok x hx
  ·rw[List.mem_singleton.1 hx];exact⟨.inl h0,hw⟩
end
def as4(Bs M:Nat)(g:Sg)(ga:Option Addr)(gc:Nat)(S:Sds)(w:World)(e:Ending)(w':World):Prop:=e= .returned (.tuple #[])/\Scl w' Bs M g ga gc S/\Sfr Bs M w w'
theorem aeX{ts:List T}{k:Nat}{s:T}(h:ts[k]? =some s):T.hdsL (ts.take (k+1))=T.hdsL (ts.take k)++s.hds:=by
 obtain⟨hi,e⟩:=ah.1 h;rw[aI hi,e]
 have ap:∀(a b:List T),T.hdsL (a++b)=T.hdsL a++T.hdsL b:=fun a b=>by
  induction a with
  |nil=>rfl
  |cons t a ih=>simp[T.hdsL,ih]
 rw[ap];simp[T.hdsL]
def PtI(Bs M:Nat)(g:Sg)(ga:Option Addr)(gc:Nat)(pos:Bool)(S:Sds)(t:T)(W2:World)(i:Value)(wr:World):Prop:=
 ∃k:Nat,k<=t.args.length/\i= .int .i64 (k:Nat)/\Scl wr Bs M g ga gc (pl pos S (t.head::T.hdsL (t.args.take k)))/\Sfr Bs M W2 wr
theorem aki(g:Sg)(hr:aan g=true)(pos:Bool):∀(N:Nat) (t:T),t.size<=N->aaL g t=true->bad (T.subs 1 t)=false->∀(S:Sds),agw S+t.size<=1000000->
 ∀(aM:Nat) (ga:Option Addr) (gc:Nat) (a:Option Addr) (c Bs M:Nat) (w:World),aM<=Bs->aM<=M->aM<=w.heap.size->aaX aM w g ga gc->(Lit.int .i64 t.head).wf=true->aab aM w t.args a c->Scl w Bs M g ga gc S->
 Calls Tryz.prog 248 #[.pointer (some ⟨Bs,0,none⟩),tm t.head a t.args.length c,.int .i64 (sg pos)] w (as4 Bs M g ga gc (pl pos S t.hds) w):=by
 intro N
 induction N with
 |zero=>intro t ht;have:=T.size_pos t;omega
 |succ N ih=>
  intro t ht hft hbd S hlen aM ga gc a c Bs M w hnB hnM hn hG hwf hA hS;have IH:=ae ih;clear ih;have hsg:=amH pos;have hwb:=amG hr (fun v hv=>(hS.ok v hv).1);have hcb:=amF S t.head;have hsp:=T.size_pos t;have hBl:=hS.lt;have hMl:=hS.map.lt;have hne:=hS.ne;obtain⟨W1,hW1⟩:∃W1,w.alloc (aaa t.head a t.args.length c)=W1:=⟨_,rfl⟩;have hF1:Below w.heap.size w W1:=by rw[←hW1];exact(ag _ w).alloc (af _) _
  have LT:=show aai (fun X=>Vc w.heap.size t.head a t.args.length c X) W1 from by rw[←hW1];exact aaP w _ _ _ _
  obtain⟨hv0,hv1⟩:=LT.now;have hS1:=hS.later hF1;have hb1:w.heap.size<W1.heap.size:=by rw[←hW1];simp
  have hbB:w.heap.size≠Bs:=by omega
  have hbM:w.heap.size≠M:=by omega
  by_cases q1:t.head<0
  ·have hargs:=acV hbd q1;have hhd:t.hds=[t.head]:=by rw[T.hds_eq,hargs];rfl
   rw[hhd];have HS1:=ae hS1;have HF1:=ae hF1;have HV:=ae (ahK hwf);have hmul:IntKind.i64.wrap (sg pos*1)=sg pos:=by rw[Int.mul_one];exact IntWalk.i64_in _ (by omega)
   have hadd:IntKind.i64.wrap (wS g S+sg pos)=wS g S+sg pos:=IntWalk.i64_in _ (by omega);have hadd2:IntKind.i64.wrap (cS S t.head+sg pos)=cS S t.head+sg pos:=IntWalk.i64_in _ (by omega);obtain⟨c0,c1,c2,fz,dm,ok⟩:=hS1;clear hA hG hS LT dm ok hF1 hwf hargs hhd;go_enter Tryz.func248,Tryz.ntmps248;go_wp2;obtain⟨m0,m1,m2,m3,m4⟩:=HS1.out.mid (wS g S+sg pos)
   have hv0':(W1.setCell ⟨Bs,1,none⟩ (.int .i64 (wS g S+sg pos))).cell? ⟨w.heap.size,0,none⟩=some (.int .i64 t.head):=by
    rw[World.cell?_setCell_other _ _ _ _ (by intro q;simp at q)];exact hv0
   have HF2:=ae (show Sfr Bs M w (W1.setCell ⟨Bs,1,none⟩ (.int .i64 (wS g S+sg pos))) from(Sfr.of_below HF1.out).trans (Sfr.of_set Bs M W1 1 _));have hMs:M<(W1.setCell ⟨Bs,1,none⟩ (.int .i64 (wS g S+sg pos))).heap.size:=m4.lt;have hBs2:Bs<(W1.setCell ⟨Bs,1,none⟩ (.int .i64 (wS g S+sg pos))).heap.size:=World.block_lt_of_cell? _ ⟨Bs,0,none⟩ m0;have HQ:=ae q1;have HD4:=ae m4;have lk1:=m4.look HV.out q1;have HE:=ae (show(W1.setCell ⟨Bs,1,none⟩ (.int .i64 (wS g S+sg pos)))=(W1.setCell ⟨Bs,1,none⟩ (.int .i64 (wS g S+sg pos))) from rfl);clear m4 c0 c1 c2 fz hv0 hv1 hW1 hmul hadd;generalize hW2:W1.setCell ⟨Bs,1,none⟩ (.int .i64 (wS g S+sg pos))=W2 at*;have HW2:=ae hW2;clear hW2 HE;have lk2:(Instr.lookup 168 (.map (some M)) (.int .i64 t.head) false).run Tryz.prog W2.drew= .ok (.int .i64 (cS S t.head)) W2.drew:=(HD4.out.kept (W':=W2.drew) rfl).look HV.out HQ.out
   go_still_tail 9,(by kernel_rfl)
   change wpList _ _ _ _ _ W2.drew
   obtain⟨w3,hup,hM3,hg3⟩:=(HD4.out.kept (W':=W2.drew) rfl).put HV.out HQ.out pos (by omega);have HM3:=ae hM3;have HG3:=ae hg3;clear hM3 hg3;go_wp2;refine bodyPost_ret (v:= .tuple #[]) (by simp[results,Tryz.results248,go_sem]) rfl ?_;refine⟨rfl,HS1.out.var HQ.out HV.out pos ?_ HM3.out,?_⟩
   ·rw[HW2.out];exact HG3.out.block Bs hBs2 (fun e=>hne (Option.some.inj e))
   ·exact HF2.out.drew.trans (Sfr.of_grown HG3.out)
  ·have hks:t.head.toNat<g.length:=by
    have h1:=hft;rw[aa4] at h1;simp only[q1,decide_false,Bool.false_or,Bool.and_eq_true,acU] at h1;obtain⟨h1,_⟩:=h1;split at h1
    ·rename_i y hy;exact(ah.1 hy).1
    ·simp at h1
   have hin:inS g t.head:= .inr hks;have hwo:=acZ hr hin;obtain⟨b,o,x,rfl,hbn,hsx,hxw,hc0,hc1,hc2,hc3⟩:=hG.elem (i:=t.head.toNat) hks;have hwx:wo g t.head=x.wt:=by unfold wo;rw[if_neg q1,hsx]
   rw[hwx] at hwo;have h0:0<=t.head:=by omega
   have h1:t.head<(g.length:Int):=by omega
   have hsgm: -1000<=sg pos*x.wt/\sg pos*x.wt<=1000:=by rcases hsg with e|e<;>rw[e]<;>omega
   have hmul:IntKind.i64.wrap (sg pos*x.wt)=sg pos*x.wt:=IntWalk.i64_in _ (by omega);have hadd:IntKind.i64.wrap (wS g S+sg pos*x.wt)=wS g S+sg pos*x.wt:=IntWalk.i64_in _ (by omega);have hlg:g.length<=gc/\gc<=maxLen:=⟨hG.1,hG.2.1⟩;unfold maxLen at hlg;obtain⟨hl3,hl4⟩:=hlg;have hx2:W1.cell? ⟨b,o+t.head.toNat*4+2,none⟩=some (.int .i64 x.wt):=(hF1.cell (p:=⟨b,_,none⟩) (by show b<w.heap.size;omega)).trans hc2;have hS2:=hS1.sym h0 hin (ahK hwf) pos;rw[hwx] at hS2;have hF2:=(Sfr.of_below (Bs:=Bs) (M:=M) hF1).trans (Sfr.of_set Bs M W1 1 (.int .i64 (wS g S+sg pos*x.wt)));have hargs:=acb hft hbd;have HAR:=ae (fun(s:T) (hs:s∈t.args)=>hargs s hs);have HS1:=ae hS1;have HS2:=ae hS2;have HF1:=ae hF1;have HF2:=ae hF2;have HA:=ae hA;have HG:=ae hG;obtain⟨c0,c1,c2,fz,dm,ok⟩:=hS1;clear hA hG hS LT dm ok hF1 hwf hargs hS2 hF2 hft hbd hc0 hc1 hc2 hc3 hsx hxw hwx hsgm;go_enter Tryz.func248,Tryz.ntmps248;go_wp2;clear hW1
   go_still_tail 18,(by kernel_rfl)
   change wpList _ _ _ _ _ W1.drew
   go_wp2;have hW2s:Scl (W1.setCell ⟨Bs,1,none⟩ (.int .i64 (wS g S+sg pos*x.wt))).drew Bs M g (some ⟨b,o,none⟩) gc (pl pos S [t.head]):=HS2.out.kept rfl rfl;have hW2f:Sfr Bs M w (W1.setCell ⟨Bs,1,none⟩ (.int .i64 (wS g S+sg pos*x.wt))).drew:=HF2.out.drew
   have hW2v:(W1.setCell ⟨Bs,1,none⟩ (.int .i64 (wS g S+sg pos*x.wt))).drew.cell? ⟨w.heap.size,1,none⟩=some (.slice a t.args.length c):=by
    show(W1.setCell ⟨Bs,1,none⟩ (.int .i64 (wS g S+sg pos*x.wt))).cell? ⟨w.heap.size,1,none⟩=_;rw[World.cell?_setCell_other _ _ _ _ (by intro q;simp at q<;>omega)];exact hv1
   have hW2b:w.heap.size<(W1.setCell ⟨Bs,1,none⟩ (.int .i64 (wS g S+sg pos*x.wt))).drew.heap.size:=by
    show w.heap.size<(W1.setCell ⟨Bs,1,none⟩ (.int .i64 (wS g S+sg pos*x.wt))).heap.size;simpa using hb1
   clear HS1 HS2 HF1 HF2 c0 c1 c2 fz hv0 hv1 hx2 hmul hadd;generalize (W1.setCell ⟨Bs,1,none⟩ (.int .i64 (wS g S+sg pos*x.wt))).drew=W2 at*;have HW2:=ae hW2s;have HF2:=ae hW2f;have HN:=ae (show aM<=w.heap.size/\aM<=Bs/\aM<=M from⟨hn,hnB,hnM⟩);have hlc:t.args.length<=c/\c<=maxLen:=⟨HA.out.1,HA.out.2.1⟩;unfold maxLen at hlc;obtain⟨hl1,hl2⟩:=hlc;clear hW2s hW2f
   go_loopw [49] (fun i wr=>PtI Bs M g (some ⟨b,o,none⟩) gc pos S t W2 i wr) (fun i _=>t.args.length-(intOf i).toNat)
   case atStart=>exact⟨0,Nat.zero_le _,rfl,by simpa[T.hdsL] using HW2.out,Sfr.refl _ _ _⟩
   case round=>
    obtain⟨k,hk,rfl,hSk,hFk⟩:=hrel;have HSk:=ae hSk;have HFk:=ae hFk;have hvk:wr.cell? ⟨w.heap.size,1,none⟩=some (.slice a t.args.length c):=(hFk.cell hW2b hbB hbM).trans hW2v;have hBw:Below aM w wr:=(HF2.out.trans hFk).below HN.out.2.1 HN.out.2.2 HN.out.1;have hszr:=hFk.size;by_cases hlt:k<t.args.length
    ·obtain⟨bb,oo,s,a',c',rfl,hbbn,hs,hswf,hcs1,hcs2,hA'⟩:=(HA.out.below hBw).elem (i:=k) hlt;have hk0:(0:Int)<=(k:Int):=aw _;have hk1:(k:Int)<(t.args.length:Int):=by omega
     have hsm:=ak hs;obtain⟨hfs,hbs⟩:=HAR.out s hsm
     have hss:s.size<=N:=by
      have h1:=T.size_lt_of_mem hs;have h2:=T.size_eq t;omega
     have hls:agw (pl pos S (t.head::T.hdsL (t.args.take k)))+s.size<=1000000:=by
      rw[adq,List.length_cons,T.hdsL_length];have h1:=T.sizes_take hs;have h2:=T.size_eq t;have h3:=T.sizes_append (t.args.take (k+1)) (t.args.drop (k+1));rw[List.take_append_drop] at h3;omega
     have hcall:=IH.out s hss hfs hbs _ hls aM (some ⟨b,o,none⟩) gc a' c' Bs M wr HN.out.2.1 HN.out.2.2 (aE HN.out.1 (by omega)) (HG.out.below hBw) hswf hA' hSk;rw[awQ,List.cons_append,←aeX hs] at hcall;have HCALL:=ae hcall;have hbb:bb<wr.heap.size:=by omega
     clear hcall hA' hs hsm hSk hFk hBw hls hss
     go_wp2_with fail
     refine HCALL.out.mono ?_;rintro e w5 ⟨rfl,hS5,hF5⟩;have HS5:=ae hS5;have HF5:=ae (HFk.out.trans hF5);clear hS5 hF5;go_wp2
     go_roundw
     case rel=>exact⟨k+1,by omega,by go_num,HS5.out,HF5.out⟩
     case measure=>simp[intOf];omega
    ·obtain rfl:k=t.args.length:=by omega
     clear hSk hFk hBw;go_wp2;refine bodyPost_end (v:= .tuple #[]) (by simp[results,Tryz.results248,go_sem]) rfl ?_;refine⟨rfl,?_,HF2.out.trans HFk.out⟩;have:=HSk.out;rw[List.take_length,←T.hds_eq] at this;exact this
end Go.Proofs.YtabfapijgfjflaaGreat
