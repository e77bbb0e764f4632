import Derived.Test.YtabfapijgfjflaaGreatMQBp
import Derived.Test.YtabfapijgfjflaaGreatMQBs
import Derived.Test.YtabfapijgfjflaaGreatMAlU
import Derived.Test.YtabfapijgfjflaaGreatMAl
set_option linter.unusedVariables false
set_option linter.unusedSimpArgs false
namespace Go.Proofs.YtabfapijgfjflaaGreat
open Go.RowKit
inductive TV (S:List SyU) (R:Int->Int):T->T->Prop
 |var {t:T}:t.head<0-> -1-t.head<256->R (-1-t.head)<256->TV S R t (vt (R (-1-t.head)))
 |link {t u:T}:t.head<0-> -1-t.head<256->¬R (-1-t.head)<256->TV S R (aa5 S (R (-1-t.head))) u->TV S R t u
 |app {t:T} {us:List T}:¬t.head<0->us.length=t.args.length->(∀(k:Nat) (x y:T),t.args[k]? =some x->us[k]? =some y->TV S R x y)->TV S R t (.node t.head us)
section
variable {S:List SyU} {R:Int->Int}
theorem TV.inv_app{t u:T}(h:TV S R t u)(ht:¬t.head<0):u.head=t.head/\u.args.length=t.args.length/\∀(k:Nat) (x y:T),t.args[k]? =some x->u.args[k]? =some y->TV S R x y:=by
 cases h with
 |var h1 _ _=>exact absurd h1 ht
 |link h1 _ _ _=>exact absurd h1 ht
 |app h1 h2 h3=>exact⟨rfl,h2,h3⟩
theorem TV.inv_var{t u:T}(h:TV S R t u)(ht:t.head<0)(hr:R (-1-t.head)<256):u=vt (R (-1-t.head)):=by
 cases h with
 |var h1 _ h2=>rfl
 |link h1 _ h2 h3=>exact absurd hr h2
 |app h1=>exact absurd ht h1
theorem TV.inv_link{t u:T}(h:TV S R t u)(ht:t.head<0)(hr:¬R (-1-t.head)<256):TV S R (aa5 S (R (-1-t.head))) u:=by
 cases h with
 |var h1 _ h2=>exact absurd h2 hr
 |link h1 _ h2 h3=>exact h3
 |app h1=>exact absurd ht h1
theorem TV.mk{t u:T}(ht:¬t.head<0)(h1:u.head=t.head)(h2:u.args.length=t.args.length)(h3:∀(k:Nat) (x y:T),t.args[k]? =some x->u.args[k]? =some y->TV S R x y):TV S R t u:=by
 have:=TV.app (S:=S) (R:=R) ht h2 h3;rw[←h1,T.eta u] at this;exact this
theorem afg{l l':List T}(h:l.length=l'.length)(hk:∀(k:Nat) (x y:T),l[k]? =some x->l'[k]? =some y->x=y):l=l':=by
 apply List.ext_getElem h;intro i h1 h2;exact hk i _ _ (ai h1) (ai h2)
theorem TV.unique{t u:T}(h:TV S R t u):∀{u':T},TV S R t u'->u=u':=by
 induction h with
 |var h1 _ h2=>intro u' h';exact(h'.inv_var h1 h2).symm
 |link h1 _ h2 _ ih=>intro u' h';exact ih (h'.inv_link h1 h2)
 |app h1 h2 h3 ih=>
  intro u' h';obtain⟨e1,e2,e3⟩:=h'.inv_app h1;rw[←T.eta u',e1]
  congr 1
  refine afg (by omega) (fun k x y hx hy=> ?_);rename_i t us;have hkl:k<t.args.length:=by have:=(ah.1 hx).1;omega
  exact ih k _ x (ai hkl) hx (e3 k _ y (ai hkl) hy)
theorem TV.ext{S':List SyU}(hs:∀v,R v≠v->¬R v<256->aa5 S' (R v)=aa5 S (R v)){t u:T}(h:TV S R t u):TV S' R t u:=by
 induction h with
 |var h1 h0 h2=>exact .var h1 h0 h2
 |link h1 h0 h2 _ ih=>
  refine .link h1 h0 h2 ?_;rw[hs _ (fun e=>h2 (by rw[e];exact h0)) h2];exact ih
 |app h1 h2 _ ih=>exact .app h1 h2 ih
structure aiH (S:List SyU) (R:Int->Int):Prop where
 ok:GOk S R
 idem:∀v,R (R v)=R v
 argo:avH S
 symr:∀v,256<=v->256<=R v
 vmin:∀v,v<256->R v<256->R v<=v
 cong:∀v,256<=v->R v≠v->abF (aa5 S v) (aa5 S (R v))=true/\(aau S v).length=(aa5 S v).args.length/\(aau S (R v)).length=(aa5 S (R v)).args.length/\∀(k:Nat) (x y:Int),(aau S v)[k]? =some x->(aau S (R v))[k]? =some y->R x=R y
theorem aek.fin{E:(Int->T)->Prop}{s:St}{m:Nat}(h:aek E s m)(hs:s.stk=[]):aiH s.syms s.R:=
 ⟨h.ok,h.idem,h.argo,h.symr,h.vmin,fun v h0 hv=>by
  obtain⟨c1,c2,c3,c4⟩:=h.cong v h0 hv;refine⟨c1,c2,c3,fun k x y hx hy=> ?_⟩;have:=c4 k x y hx hy;rw[hs] at this;exact this.done⟩
theorem aiH.args(h:aiH S R)(u:Int):aiH (aac S u).1 R:=by
 obtain⟨hok,hle,_⟩:=h.ok.args u;refine⟨hok,h.idem,h.argo.args h.ok u,h.symr,h.vmin,fun v hv0 hv=> ?_⟩;obtain⟨c1,c2,c3,c4⟩:=h.cong v hv0 hv;have h1:=h.ok.rv v hv;have hr:=h.symr v hv0;rw[aaz u (by omega),aaz u (by omega),acI u hv0 h1.1.2 c2,acI u hr h1.2.2 c3];exact⟨c1,c2,c3,c4⟩
theorem TV.args(h:aiH S R)(u:Int){t x:T}(ht:TV S R t x):TV (aac S u).1 R t x:=
 ht.ext (fun v hv hr=>aaz u (by have:=h.ok.rv v hv;omega))
theorem aml{s t:T}(h:abF s t=true):s.head=t.head/\s.args.length=t.args.length:=by unfold abF at h;simpa using h
theorem ajR(h:aiH S R):∀(N:Nat) (u:T),u.size<=N->∀v:Int,0<=v->v<256+S.length->(TV S R (ownU S v) u↔TV S R (ownU S (R v)) u):=by
 intro N
 induction N with
 |zero=>intro u hu;have:=T.size_pos u;omega
 |succ N ih=>
  intro u hu v hv0 hv1;by_cases e:R v=v
  ·rw[e]
  have hrv:=h.ok.rv v e;by_cases hv:v<256
  ·have hov:ownU S v=vt v:=by unfold ownU;rw[if_pos hv]
   have hvn:(vt v).head<0:=by rw[aaq];omega
   have hw: -1-(vt v).head=v:=by rw[aaq];omega
   by_cases hr:R v<256
   ·have hor:ownU S (R v)=vt (R v):=by unfold ownU;rw[if_pos hr]
    have hrn:(vt (R v)).head<0:=by rw[aaq];omega
    have hw2: -1-(vt (R v)).head=R v:=by rw[aaq];omega
    rw[hov,hor];constructor
    ·intro ht;have:=ht.inv_var hvn (by rw[hw];exact hr);rw[hw] at this;subst this;have h2:=TV.var (S:=S) (R:=R) hrn (by rw[hw2];exact hr) (by rw[hw2,h.idem];exact hr);rw[hw2,h.idem] at h2;exact h2
    ·intro ht;have:=ht.inv_var hrn (by rw[hw2,h.idem];exact hr);rw[hw2,h.idem] at this;subst this;have h2:=TV.var (S:=S) (R:=R) hvn (by rw[hw];exact hv) (by rw[hw];exact hr);rw[hw] at h2;exact h2
   ·rw[hov,abC (by omega)];constructor
    ·intro ht;have:=ht.inv_link hvn (by rw[hw];exact hr);rw[hw] at this;exact this
    ·intro ht;exact .link hvn (by rw[hw];exact hv) (by rw[hw];exact hr) (by rw[hw];exact ht)
  ·have hr:=h.symr v (by omega);obtain⟨c1,c2,c3,c4⟩:=h.cong v (by omega) e;obtain⟨a1,a2⟩:=aml c1;obtain⟨_,d1,_⟩:=abr h.ok (v:=v) (by omega) hv1;obtain⟨_,d2,_⟩:=abr h.ok (v:=R v) hr hrv.2.2;rw[abC (by omega),abC hr]
   have key:∀(k:Nat) (x y z:T),(aa5 S v).args[k]? =some x->(aa5 S (R v)).args[k]? =some y->u.args[k]? =some z->(TV S R x z↔TV S R y z):=fun k x y z hx hy hz=>by
    have hk1:=(ah.1 hx).1;have hk2:=(ah.1 hy).1;have hn1:=ai (show k<(aau S v).length by omega);have hn2:=ai (show k<(aau S (R v)).length by omega);have o1:=h.argo v _ x (by omega) hv1 k hn1 hx;have o2:=h.argo (R v) _ y hr hrv.2.2 k hn2 hy;have hrr:=c4 k _ _ hn1 hn2;obtain⟨y1,hy1,_,e1⟩:=aeb (S:=S) (v:=v) (by omega) hv1;obtain⟨y2,hy2,_,e2⟩:=aeb (S:=S) (v:=R v) hr hrv.2.2;have v1:=h.ok.argv y1 (ak hy1) _ (by rw[←e1];exact ak hn1);have v2:=h.ok.argv y2 (ak hy2) _ (by rw[←e2];exact ak hn2);have hzs:z.size<=N:=by have:=ab0 (ak hz);omega
    rw[←o1,←o2,ih z hzs _ v1.1 v1.2,ih z hzs _ v2.1 v2.2,hrr]
   constructor
   ·intro ht;obtain⟨e1,e2,e3⟩:=ht.inv_app d1;refine TV.mk d2 (e1.trans a1) (e2.trans a2) (fun k y z hy hz=> ?_);have hk:k<(aa5 S v).args.length:=by have:=(ah.1 hy).1;omega
    exact(key k _ y z (ai hk) hy hz).1 (e3 k _ z (ai hk) hz)
   ·intro ht;obtain⟨e1,e2,e3⟩:=ht.inv_app d2;refine TV.mk d1 (e1.trans a1.symm) (e2.trans a2.symm) (fun k x z hx hz=> ?_);have hk:k<(aa5 S (R v)).args.length:=by have:=(ah.1 hx).1;omega
    exact(key k x _ z hx (ai hk) hz).2 (e3 k _ z (ai hk) hz)
theorem awq{θ:Int->T}(hθ:ab6 S R θ){t u:T}(h:TV S R t u):t.sub θ=u.sub θ:=by
 have hroot:∀v,(ownU S v).sub θ=(ownU S (R v)).sub θ:=fun v=>by
  by_cases e:R v=v
  ·rw[e]
  ·exact hθ v e
 induction h with
 |var h1 hw h2=>
  rename_i t;rw[T.sub_neg h1];have:=hroot (-1-t.head);have e1:ownU S (-1-t.head)=vt (-1-t.head):=by unfold ownU;rw[if_pos hw]
  have e2:ownU S (R (-1-t.head))=vt (R (-1-t.head)):=by unfold ownU;rw[if_pos h2]
  rw[e1,e2,T.sub_neg (by rw[aaq];omega),aaq,show-1-(-1-(-1-t.head))= -1-t.head from by omega] at this;exact this
 |link h1 h0 h2 _ ih=>
  rename_i t u _;rw[←ih,T.sub_neg h1];have:=hroot (-1-t.head);have e1:ownU S (-1-t.head)=vt (-1-t.head):=by unfold ownU;rw[if_pos h0]
  rw[e1,abC (by omega),T.sub_neg (by rw[aaq];omega),aaq,show-1-(-1-(-1-t.head))= -1-t.head from by omega] at this;exact this
 |app h1 h2 h3 ih=>
  rename_i t us;rw[T.sub_pos h1,T.sub_pos (by rw[T.head_node];exact h1),T.head_node,T.args_node]
  congr 1
  refine afg (by simp[h2]) (fun k x y hx hy=> ?_);rw[List.getElem?_map,Option.map_eq_some_iff] at hx hy;obtain⟨x',hx',rfl⟩:=hx;obtain⟨y',hy',rfl⟩:=hy;exact ih k x' y' hx' hy'
end
def msr(u:T):Int×Int:=(min (u.size:Int) 401,(u.depth:Int))
def ajS(us:List T):Int×Int:=(min (1+(T.sizes us:Int)) 401,1+(T.depths us:Int))
theorem sizes_append(us vs:List T):T.sizes (us++vs)=T.sizes us+T.sizes vs:=by
 induction us with
 |nil=>simp[T.sizes]
 |cons u us ih=>simp only[List.cons_append,T.sizes,ih];omega
theorem depths_append(us vs:List T):T.depths (us++vs)=max (T.depths us) (T.depths vs):=by
 induction us with
 |nil=>simp[T.depths]
 |cons u us ih=>simp only[List.cons_append,T.depths,ih];omega
theorem ak8(us:List T)(u:T):ajS (us++[u])=(min ((ajS us).1+(msr u).1) 401,max (ajS us).2 (1+(msr u).2)):=by
 unfold ajS msr;rw[sizes_append,depths_append];simp only[T.sizes,T.depths];refine Prod.ext ?_ ?_
 ·simp only;omega
 ·simp only;omega
structure Ext (S S':List SyU):Prop where
 len:S.length<=S'.length
 pot:pot S'<=pot S
 ownU:∀v:Int,v<256+S.length->ownU S' v=ownU S v
theorem Ext.refl(S:List SyU):Ext S S:=⟨af _,af _,fun _ _=>rfl⟩
theorem Ext.trans{S S' S'':List SyU}(h:Ext S S')(k:Ext S' S''):Ext S S'':=⟨aE h.len k.len,aE k.pot h.pot,fun v hv=>(k.ownU v (by have:=h.len;omega)).trans (h.ownU v hv)⟩
theorem Ext.args{S:List SyU}{R:Int->Int}(h:GOk S R)(u:Int):Ext S (aac S u).1:=⟨(h.args u).2.1,aij S u,fun v hv=>amT u hv⟩
theorem Ext.linkEq{S S':List SyU}{R:Int->Int}(h:Ext S S')(hok:GOk S R)(θ:Int->T):ab6 S' R θ↔ab6 S R θ:=by
 constructor
 ·intro hh v hv;have h1:=hok.rv v hv;have:=hh v hv;rw[h.ownU v h1.1.2,h.ownU _ h1.2.2] at this;exact this
 ·intro hh v hv;have h1:=hok.rv v hv;rw[h.ownU v h1.1.2,h.ownU _ h1.2.2];exact hh v hv
theorem TV.more{S S':List SyU}{R:Int->Int}(h:Ext S S')(hok:GOk S R){t u:T}(ht:TV S R t u):TV S' R t u:=ht.ext (fun v hv hr=>by
 have h1:=hok.rv v hv;have:=h.ownU (R v) h1.2.2;rw[abC (by omega),abC (by omega)] at this;exact this)
structure aq7 (R:Int->Int) (S:List SyU) (K:Kn) (P:List Int) (nk:Nat):Prop where
 fin:aiH S R
 kok:KOk S K nk
 pl:P.length<=nk
 path:∀r,r∈P↔∃m,K r=some m/\m.1=0
 done:∀r m,K r=some m->m.1≠0->m.2<=(nk:Int)-P.length/\∃u,TV S R (ownU S r) u/\m=msr u
def Blw(R:Int->Int)(S:List SyU)(P:List Int)(v:Int):Prop:=∀θ,ab6 S R θ->∀r∈P,((ownU S v).sub θ).size<((ownU S r).sub θ).size
def awr(R:Int->Int)(S:List SyU)(K:Kn)(P:List Int)(nk:Nat)(v:Int)(m:Int×Int)(S':List SyU)(K':Kn):Prop:=
 ∃nk',nk<=nk'/\aq7 R S' K' P nk'/\Ext S S'/\(∀r x,K r=some x->K' r=some x)/\m.2<=(nk':Int)-P.length/\∃u,TV S' R (ownU S' (R v)) u/\m=msr u
def atu(R:Int->Int)(f:Nat):Prop:=∀S K v P nk,aq7 R S K P nk->0<=v->v<256+(S.length:Int)->Blw R S P v->
 (∀m S' K',ofF R f S K v=some (m,S',K')->(m.1=0->∀θ,¬ab6 S R θ)/\(m.1≠0->awr R S K P nk v m S' K'))/\(256+pot S<f+nk->∃z,ofF R f S K v=some z)
theorem Blw.ext{R:Int->Int}{S S':List SyU}{P:List Int}{v:Int}(h:Blw R S P v)(he:Ext S S')(hok:GOk S R)(hv:v<256+(S.length:Int))(hP:∀r∈P,r<256+(S.length:Int)):Blw R S' P v:=fun θ hθ r hr=>by
 rw[he.ownU v hv,he.ownU r (hP r hr)];exact h θ ((he.linkEq hok θ).1 hθ) r hr
theorem aq7.lt{R:Int->Int}{S:List SyU}{K:Kn}{P:List Int}{nk:Nat}(h:aq7 R S K P nk){r:Int}(hr:r∈P):0<=r/\r<256+(S.length:Int):=by
 obtain⟨m,hm,_⟩:=(h.path r).1 hr;obtain⟨ks,_,_,k3,k4,_⟩:=h.kok;exact k4 r ((k3 r).2 (by rw[hm];rfl))
theorem asH{R:Int->Int}{f:Nat}(hof:atu R f):∀(as_:List Int) (us:List T) (S:List SyU) (K:Kn) (P:List Int) (nk:Nat),aq7 R S K P nk->(∀a∈as_,0<=a/\a<256+(S.length:Int))->(∀a∈as_,Blw R S P a)->(ajS us).2<=(nk:Int)-P.length+1->
 (∀b p S' K',ofL (ofF R f) as_ (ajS us) S K=some (b,p,S',K')->(b=true->(p.1=0/\∀θ,¬ab6 S R θ))/\(b=false->∃nk' vs,nk<=nk'/\aq7 R S' K' P nk'/\Ext S S'/\(∀r x,K r=some x->K' r=some x)/\vs.length=as_.length/\(∀(k:Nat) (a:Int) (u:T),as_[k]? =some a->vs[k]? =some u->TV S' R (ownU S' (R a)) u)/\p=ajS (us++vs)/\p.2<=(nk':Int)-P.length+1))/\
 (256+pot S<f+nk->∃z,ofL (ofF R f) as_ (ajS us) S K=some z):=by
 intro as_
 induction as_ with
 |nil=>
  intro us S K P nk hM _ _ hw;refine⟨fun b p S' K' h=> ?_,fun _=>⟨_,rfl⟩⟩;simp only[ofL,aJ,Prod.mk.injEq] at h;obtain⟨rfl,rfl,rfl,rfl⟩:=h;exact⟨(fun h=>by cases h),fun _=>⟨nk,[],af _,hM,Ext.refl _,fun _ _ h=>h,rfl,by simp,by simp,hw⟩⟩
 |cons a as_ ih=>
  intro us S K P nk hM hv hb hw;have hva:=hv a (by simp);obtain⟨o1,o2⟩:=hof S K a P nk hM hva.1 hva.2 (hb a (by simp));have hPl:∀r∈P,r<256+(S.length:Int):=fun r hr=>(hM.lt hr).2
  have next:∀m S' K',ofF R f S K a=some (m,S',K')->m.1≠0->∃nk' u,nk<=nk'/\aq7 R S' K' P nk'/\Ext S S'/\(∀r x,K r=some x->K' r=some x)/\TV S' R (ownU S' (R a)) u/\m=msr u/\m.2<=(nk':Int)-P.length/\(∀x∈as_,0<=x/\x<256+(S'.length:Int))/\(∀x∈as_,Blw R S' P x)/\(ajS (us++[u])).2<=(nk':Int)-P.length+1/\ajS (us++[u])=(min ((ajS us).1+m.1) 401,max (ajS us).2 (1+m.2)):=fun m S' K' hf hm=>by
   obtain⟨nk',g1,g2,g3,g4,g5,u,g6,g7⟩:=(o1 m S' K' hf).2 hm;refine⟨nk',u,g1,g2,g3,g4,g6,g7,g5,fun x hx=> ?_,fun x hx=>(hb x (by simp[hx])).ext g3 hM.fin.ok (hv x (by simp[hx])).2 hPl,?_,?_⟩
   ·have:=hv x (by simp[hx]);have:=g3.len;omega
   ·rw[ak8,←g7];simp only;omega
   ·rw[ak8,←g7]
  refine⟨fun b p S' K' h=> ?_,fun hf=> ?_⟩
  ·rw[ofL] at h;cases hfa:ofF R f S K a with
   |none=>rw[hfa] at h;cases h
   |some z=>
    obtain⟨m,S1,K1⟩:=z;rw[hfa] at h;simp only at h;split at h
    ·rename_i hm;simp only[aJ,Prod.mk.injEq] at h;obtain⟨rfl,rfl,rfl,rfl⟩:=h;exact⟨fun _=>⟨hm,(o1 _ _ _ hfa).1 hm⟩,fun h=>by cases h⟩
    ·rename_i hm;split at h
     ·cases h
     ·obtain⟨nk',u,g1,g2,g3,g4,g6,g7,g5,gv,gb,gw,ge⟩:=next m S1 K1 hfa hm;rw[←ge] at h;obtain⟨i1,_⟩:=ih (us++[u]) S1 K1 P nk' g2 gv gb gw;obtain⟨j1,j2⟩:=i1 b p S' K' h;refine⟨fun hb'=>⟨(j1 hb').1,fun θ hθ=>(j1 hb').2 θ ((g3.linkEq hM.fin.ok θ).2 hθ)⟩,fun hb'=> ?_⟩;obtain⟨nk2,vs,k1,k2,k3,k4,k5,k6,k7,k8⟩:=j2 hb';refine⟨nk2,u::vs,by omega,k2,g3.trans k3,fun r x hx=>k4 r x (g4 r x hx),by simp[k5],fun k x y hx hy=> ?_,by rw[k7];simp,k8⟩;cases k with
      |zero=>
       simp at hx hy;subst hx hy;have hra:=g2.fin.ok.root (v:=a) hva.1 (by have:=g3.len;omega);rw[k3.ownU _ hra.2];exact g6.more k3 g2.fin.ok
      |succ k=>exact k6 k x y (by simpa using hx) (by simpa using hy)
  ·obtain⟨⟨m,S1,K1⟩,hfa⟩:=o2 hf;rw[ofL,hfa];simp only;split
   ·exact⟨_,rfl⟩
   ·rename_i hm;obtain⟨nk',u,g1,g2,g3,g4,g6,g7,g5,gv,gb,gw,ge⟩:=next m S1 K1 hfa hm;have hl:=g2.fin.ok.len;have hk:=g2.kok.le;rw[if_neg (by omega),←ge];exact(ih (us++[u]) S1 K1 P nk' g2 gv gb gw).2 (by have:=g3.pot;omega)
theorem auX(R:Int->Int):∀f,atu R f:=by
 intro f
 induction f with
 |zero=>
  intro S K v P nk hM h0 h1 hB;refine⟨fun m S' K' h=>by simp[ofF] at h,fun hf=> ?_⟩;have:=hM.kok.le;have:=aex S;omega
 |succ f ih=>
  intro S K v P nk hM h0 h1 hB;have hrv:=hM.fin.ok.root h0 h1
  have hroot:∀θ,ab6 S R θ->∀x,(ownU S x).sub θ=(ownU S (R x)).sub θ:=fun θ hθ x=>by
   by_cases e:R x=x
   ·rw[e]
   ·exact hθ x e
  cases hK:K (R v) with
  |some m0=>
   have hof:ofF R (f+1) S K v=some (m0,S,K):=by rw[ofF,hK]
   refine⟨fun m S' K' h=> ?_,fun _=>⟨_,hof⟩⟩;rw[hof] at h;simp only[aJ,Prod.mk.injEq] at h;obtain⟨rfl,rfl,rfl⟩:=h;refine⟨fun hz θ hθ=> ?_,fun hz=> ?_⟩
   ·have:=hB θ hθ (R v) ((hM.path _).2 ⟨m0,hK,hz⟩);rw[hroot θ hθ v] at this;omega
   ·obtain⟨d1,u,d2,d3⟩:=hM.done _ _ hK hz;exact⟨nk,af _,hM,Ext.refl _,fun _ _ h=>h,d1,u,d2,d3⟩
  |none=>
   obtain⟨r,hr⟩:∃r,R v=r:=⟨_,rfl⟩;rw[hr] at hK hrv
   have hrP:r∉P:=fun e=>by
    obtain⟨m,hm,_⟩:=(hM.path r).1 e;rw[hK] at hm;cases hm
   have hRr:R r=r:=by rw[←hr];exact hM.fin.idem v
   have hfin1:=hM.fin.args r;have hext:=Ext.args hM.fin.ok r;obtain⟨_,hle1,hval1⟩:=hM.fin.ok.args r;have hkv:(alh K r).isSome=false:=by unfold alh;rw[hK];rfl
   have hkok1:KOk (aac S r).1 (upd K r (0,0)) (nk+1):=by
    have:=(hM.kok.mono hle1).put hrv.1 (by omega) (m:=(0,0)) ⟨⟨by omega,by omega⟩,by omega,by omega⟩;rw[hkv] at this;simpa using this
   have hM1:aq7 R (aac S r).1 (upd K r (0,0)) (r::P) (nk+1):=by
    refine⟨hfin1,hkok1,by simp[hM.pl],fun x=> ?_,fun x m hx hm=> ?_⟩
    ·rw[List.mem_cons];unfold upd;constructor
     ·rintro(rfl|hx)
      ·exact⟨(0,0),by rw[if_pos rfl],rfl⟩
      ·obtain⟨m,h1,h2⟩:=(hM.path x).1 hx;have:x≠r:=fun e=>hrP (e▸hx);exact⟨m,by rw[if_neg this];exact h1,h2⟩
     ·rintro⟨m,h1,h2⟩;split at h1
      ·rename_i e;exact .inl e
      ·exact .inr ((hM.path x).2 ⟨m,h1,h2⟩)
    ·unfold upd at hx;split at hx
     ·cases hx;exact absurd rfl hm
     ·obtain⟨d1,u,d2,d3⟩:=hM.done x m hx hm;refine⟨by simp only[List.length_cons];omega,u,?_,d3⟩;obtain⟨ks,_,_,k3,k4,_⟩:=hM.kok;have hxv:=k4 x ((k3 x).2 (by rw[hx];rfl));rw[hext.ownU x hxv.2];exact d2.more hext hM.fin.ok
   have hblw:∀a∈(aac S r).2,Blw R (aac S r).1 (r::P) a:=fun a ha θ hθ x hx=>by
    have hθS:=(hext.linkEq hM.fin.ok θ).1 hθ
    have hr256:256<=r:=by
     by_cases e:r<256
     ·unfold aac at ha;rw[if_pos e] at ha;simp at ha
     ·omega
    obtain⟨k,hk⟩:=au ha;have hkl:=(ah.1 hk).1;have hla:(aac S r).2.length=(aa5 S r).args.length:=abi (by omega) (by omega) hM.fin.ok.made;have hns:=acJ (S:=S) (v:=r) hr256 (by omega);have hst:=aaz (syms:=S) r (u:=r) (by omega);have hoa:=hfin1.argo r a ((aa5 S r).args[k]'(by omega)) hr256 (by omega) k (by rw[hns];exact hk) (by rw[hst];exact ai (by omega));obtain⟨_,hd,_⟩:=abr hM.fin.ok (v:=r) hr256 (by omega)
    have hlt:((ownU (aac S r).1 a).sub θ).size<((ownU S r).sub θ).size:=by
     rw[hoa,abC hr256,T.sub_pos hd,T.size_eq (.node _ _),T.args_node];have:(((aa5 S r).args[k]'(by omega)).sub θ)∈(aa5 S r).args.map (T.sub θ):=List.mem_map.2 ⟨_,List.getElem_mem _,rfl⟩;obtain⟨i,hi⟩:=au this;have:=T.size_lt_of_mem hi;omega
    rcases List.mem_cons.1 hx with rfl|hx
    ·rw[hext.ownU x (by omega)];exact hlt
    ·have hxv:=hM.lt hx;have:=hB θ hθS x hx;rw[hroot θ hθS v,hr] at this;rw[hext.ownU x hxv.2];omega
   obtain⟨l1,l2⟩:=asH ih (aac S r).2 [] (aac S r).1 (upd K r (0,0)) (r::P) (nk+1) hM1 hval1 hblw (by unfold ajS;simp only[T.depths,List.length_cons];have:=hM.pl;omega);have hm0:ajS []=(1,1):=by unfold ajS;simp[T.sizes,T.depths];rfl
   rw[hm0] at l1 l2;refine⟨fun m S' K' h=> ?_,fun hf=> ?_⟩
   ·rw[ofF,hr,hK] at h;simp only at h;cases hL:ofL (ofF R f) (aac S r).2 (1,1) (aac S r).1 (upd K r (0,0)) with
    |none=>rw[hL] at h;cases h
    |some z=>
     obtain⟨b,p,S2,K2⟩:=z;rw[hL] at h;obtain⟨q1,q2⟩:=l1 b p S2 K2 hL;cases b with
     |true=>
      simp only[aJ,Prod.mk.injEq] at h;obtain⟨rfl,rfl,rfl⟩:=h;obtain⟨hz,hno⟩:=q1 rfl;exact⟨fun _ θ hθ=>hno θ ((hext.linkEq hM.fin.ok θ).2 hθ),fun hne=>absurd hz hne⟩
     |false=>
      simp only[aJ,Prod.mk.injEq] at h;obtain⟨rfl,rfl,rfl⟩:=h;obtain⟨nk2,vs,k1,k2,k3,k4,k5,k6,k7,k8⟩:=q2 rfl;rw[List.nil_append] at k7;have hext2:=hext.trans k3;have hl2:=k2.fin.ok.len;have hk2:=k2.kok.le;have hp0:1<=p.1/\p.1<=401:=by rw[k7];unfold ajS;simp only;omega
      have hp1:1<=p.2:=by rw[k7];unfold ajS;simp only;omega
      simp only[List.length_cons] at k8
      have hval:∃u,TV S2 R (ownU S2 r) u/\p=msr u:=by
       by_cases hr256:r<256
       ·have has:(aac S r).2=[]:=by unfold aac;rw[if_pos hr256]
        rw[has] at k5;have hvs:vs=[]:=aC (by simpa using k5);subst hvs;have hor:ownU S2 r=vt r:=by unfold ownU;rw[if_pos hr256]
        have hw: -1-(vt r).head=r:=by rw[aaq];omega
        have ht:=TV.var (S:=S2) (R:=R) (t:=vt r) (by rw[aaq];omega) (by rw[hw];exact hr256) (by rw[hw,hRr];exact hr256);rw[hw,hRr] at ht;refine⟨vt r,by rw[hor];exact ht,?_⟩;rw[k7];unfold ajS msr vt;simp[T.size,T.sizes,T.depth,T.depths]
       ·have hla:(aac S r).2.length=(aa5 S r).args.length:=abi hr256 (by omega) hM.fin.ok.made;have hns:=acJ (S:=S) (v:=r) (by omega) (by omega);have hst:=aaz (syms:=S) r (u:=r) (by omega);have hor:ownU S2 r=aa5 S r:=by rw[hext2.ownU r (by omega),abC (by omega)]
        obtain⟨_,hd,_⟩:=abr hM.fin.ok (v:=r) (by omega) (by omega);refine⟨.node (aa5 S r).head vs,?_,?_⟩
        ·rw[hor];refine TV.mk hd (by rw[T.head_node]) (by rw[T.args_node];omega) (fun k x y hx hy=> ?_);rw[T.args_node] at hy;have hkl:k<(aac S r).2.length:=by have:=(ah.1 hx).1;omega
         have hk:=ai hkl;have hoa:=hfin1.argo r _ x (by omega) (by omega) k (by rw[hns];exact hk) (by rw[hst];exact hx);have hav:=hval1 _ (ak hk);have ht:=k6 k _ y hk hy;have ht2:=(ajR k2.fin y.size y (af _) _ hav.1 (by have:=k3.len;omega)).2 ht;rw[k3.ownU _ hav.2,hoa] at ht2;exact ht2
        ·rw[k7];unfold ajS msr;rw[T.size_eq,T.depth_eq,T.args_node];refine Prod.ext ?_ ?_<;>simp only<;>omega
      refine⟨fun hz=>by omega,fun _=> ?_⟩;have hK2r:K2 r=some (0,0):=k4 r (0,0) (by unfold upd;rw[if_pos rfl]);have hkv2:(alh K2 r).isSome=true:=by unfold alh;rw[hK2r];rfl
      have hkok3:KOk S2 (upd K2 r p) nk2:=by
       have:=k2.kok.put (r:=r) hrv.1 (by have:=hext2.len;omega) (m:=p) ⟨⟨by omega,by omega⟩,by omega,by omega⟩;rw[hkv2] at this;simpa using this
      refine⟨nk2,by omega,⟨k2.fin,hkok3,by have:=hM.pl;omega,fun x=> ?_,fun x m hx hm=> ?_⟩,hext2,fun x y hx=> ?_,by omega,?_⟩
      ·unfold upd;constructor
       ·intro hx;have hxr:x≠r:=fun e=>hrP (e▸hx);obtain⟨m,h1,h2⟩:=(k2.path x).1 (by simp[hx]);exact⟨m,by rw[if_neg hxr];exact h1,h2⟩
       ·rintro⟨m,h1,h2⟩;split at h1
        ·cases h1;omega
        ·rename_i hxr;have:=(k2.path x).2 ⟨m,h1,h2⟩
         rcases List.mem_cons.1 this with e|e
         ·exact absurd e hxr
         ·exact e
      ·unfold upd at hx;split at hx
       ·rename_i e;cases hx;subst e;exact⟨by omega,hval⟩
       ·obtain⟨d1,d2⟩:=k2.done x m hx hm;simp only[List.length_cons] at d1;exact⟨by omega,d2⟩
      ·have hxr:x≠r:=fun e=>by rw[e,hK] at hx;cases hx
       unfold upd;rw[if_neg hxr];exact k4 x y (by unfold upd;rw[if_neg hxr];exact hx)
      ·rw[hr];exact hval
   ·rw[ofF,hr,hK];simp only;obtain⟨⟨b,p,S2,K2⟩,hz⟩:=l2 (by have:=hext.pot;omega);rw[hz];cases b<;>exact⟨_,rfl⟩
theorem anl(R:Int->Int)(f:Nat):∀(vs:List Int) (acc:List (Int×Int)) (S:List SyU) (K:Kn) (nk:Nat),aq7 R S K [] nk->(∀v∈vs,0<=v/\v<256+(S.length:Int))->
 (∀r S',amr R f acc vs S K=some (r,S')->(r=none->∀θ,¬ab6 S R θ)/\∀ms,r=some ms->∃us:List T,us.length=vs.length/\ms=acc++us.map msr/\Ext S S'/\aiH S' R/\∀(k:Nat) (v:Int) (u:T),vs[k]? =some v->us[k]? =some u->TV S' R (ownU S' v) u)/\
 (256+pot S<f+nk->∃z,amr R f acc vs S K=some z):=by
 intro vs
 induction vs with
 |nil=>
  intro acc S K nk hM _;refine⟨fun r S' h=> ?_,fun _=>⟨_,rfl⟩⟩;simp only[amr,aJ,Prod.mk.injEq] at h;obtain⟨rfl,rfl⟩:=h;refine⟨(fun h=>by cases h),fun ms h=> ?_⟩;cases h;exact⟨[],rfl,by simp,Ext.refl _,hM.fin,by simp⟩
 |cons v vs ih=>
  intro acc S K nk hM hv;have hv0:=hv v (by simp);obtain⟨o1,o2⟩:=auX R f S K v [] nk hM hv0.1 hv0.2 (fun _ _ r hr=>by simp at hr);refine⟨fun r S' h=> ?_,fun hf=> ?_⟩
  ·rw[amr] at h;cases hfa:ofF R f S K v with
   |none=>rw[hfa] at h;cases h
   |some z=>
    obtain⟨m,S1,K1⟩:=z;rw[hfa] at h;simp only at h;obtain⟨p1,p2⟩:=o1 _ _ _ hfa;split at h
    ·rename_i hm;simp only[aJ,Prod.mk.injEq] at h;obtain⟨rfl,rfl⟩:=h;exact⟨fun _=>p1 hm,fun ms h=>by cases h⟩
    ·rename_i hm;obtain⟨nk',g1,g2,g3,g4,g5,u,g6,g7⟩:=p2 hm;obtain⟨i1,_⟩:=ih (acc++[m]) S1 K1 nk' g2 (fun x hx=>by have:=hv x (by simp[hx]);have:=g3.len;omega);obtain⟨j1,j2⟩:=i1 r S' h;refine⟨fun hr θ hθ=>j1 hr θ ((g3.linkEq hM.fin.ok θ).2 hθ),fun ms hms=> ?_⟩;obtain⟨us,k1,k2,k3,k4,k5⟩:=j2 ms hms;refine⟨u::us,by simp[k1],by rw[k2,g7];simp,g3.trans k3,k4,fun k x y hx hy=> ?_⟩;cases k with
     |zero=>
      simp at hx hy;subst hx hy;have hvS1:v<256+(S1.length:Int):=by have:=g3.len;omega
      rw[k3.ownU _ hvS1];exact((ajR g2.fin u.size u (af _) v hv0.1 hvS1).2 g6).more k3 g2.fin.ok
     |succ k=>exact k5 k x y (by simpa using hx) (by simpa using hy)
  ·obtain⟨⟨m,S1,K1⟩,hfa⟩:=o2 hf;rw[amr,hfa];simp only;split
   ·exact⟨_,rfl⟩
   ·rename_i hm;obtain⟨nk',g1,g2,g3,g4,g5,u,g6,g7⟩:=(o1 _ _ _ hfa).2 hm;exact(ih (acc++[m]) S1 K1 nk' g2 (fun x hx=>by have:=hv x (by simp[hx]);have:=g3.len;omega)).2 (by have:=g3.pot;omega)
def aqP(R:Int->Int)(f:Nat):Prop:=∀S v u,aiH S R->0<=v->v<256+(S.length:Int)->TV S R (ownU S v) u->
 (∀x S',af1 R f S v=some (x,S')->x=u/\Ext S S'/\aiH S' R)/\(u.size<=f->∃z,af1 R f S v=some z)
theorem aqQ{R:Int->Int}{f:Nat}(hf:aqP R f):∀(as_:List Int) (us acc:List T) (S:List SyU),aiH S R->us.length=as_.length->(∀a∈as_,0<=a/\a<256+(S.length:Int))->(∀(k:Nat) (a:Int) (u:T),as_[k]? =some a->us[k]? =some u->TV S R (ownU S a) u)->
 (∀ts S',amp (af1 R f) acc as_ S=some (ts,S')->ts=acc++us/\Ext S S'/\aiH S' R)/\((∀u∈us,u.size<=f)->∃z,amp (af1 R f) acc as_ S=some z):=by
 intro as_
 induction as_ with
 |nil=>
  intro us acc S hF hl _ _;have:us=[]:=aC (by simpa using hl);subst this;refine⟨fun ts S' h=> ?_,fun _=>⟨_,rfl⟩⟩;simp only[amp,aJ,Prod.mk.injEq] at h;obtain⟨rfl,rfl⟩:=h;exact⟨by simp,Ext.refl _,hF⟩
 |cons a as_ ih=>
  intro us acc S hF hl hv ht;cases us with
  |nil=>simp at hl
  |cons u us=>
   have hva:=hv a (by simp);obtain⟨o1,o2⟩:=hf S a u hF hva.1 hva.2 (ht 0 a u rfl rfl)
   have next:∀S',Ext S S'->aiH S' R->(∀x∈as_,0<=x/\x<256+(S'.length:Int))/\∀(k:Nat) (x:Int) (y:T),as_[k]? =some x->us[k]? =some y->TV S' R (ownU S' x) y:=fun S' he hF'=>
    ⟨fun x hx=>by have:=hv x (by simp[hx]);have:=he.len;omega,fun k x y hx hy=>by
     have hxv:=hv x (by simp[ak hx]);rw[he.ownU x hxv.2];exact(ht (k+1) x y (by simpa using hx) (by simpa using hy)).more he hF.ok⟩
   refine⟨fun ts S' h=> ?_,fun hs=> ?_⟩
   ·rw[amp] at h;cases hfa:af1 R f S a with
    |none=>rw[hfa] at h;cases h
    |some z=>
     obtain⟨x,S1⟩:=z;rw[hfa] at h;simp only at h;obtain⟨rfl,e1,f1⟩:=o1 _ _ hfa;obtain⟨n1,n2⟩:=next S1 e1 f1;obtain⟨r1,r2,r3⟩:=(ih us (acc++[x]) S1 f1 (by simpa using hl) n1 n2).1 ts S' h;exact⟨by rw[r1];simp,e1.trans r2,r3⟩
   ·obtain⟨⟨x,S1⟩,hfa⟩:=o2 (hs u (by simp));rw[amp,hfa];simp only;obtain⟨_,e1,f1⟩:=o1 _ _ hfa;obtain⟨n1,n2⟩:=next S1 e1 f1;exact(ih us (acc++[x]) S1 f1 (by simpa using hl) n1 n2).2 (fun y hy=>hs y (by simp[hy]))
theorem asI(R:Int->Int):∀f,aqP R f:=by
 intro f
 induction f with
 |zero=>
  intro S v u hF h0 h1 ht;exact⟨fun x S' h=>by simp[af1] at h,fun h=>by have:=T.size_pos u;omega⟩
 |succ f ih=>
  intro S v u hF h0 h1 ht;have htr:=(ajR hF u.size u (af _) v h0 h1).1 ht;have hrv:=hF.ok.root h0 h1;obtain⟨r,hr⟩:∃r,R v=r:=⟨_,rfl⟩;have hRr:R r=r:=by rw[←hr];exact hF.idem v
  rw[hr] at htr hrv;by_cases hr256:r<256
  ·have hor:ownU S r=vt r:=by unfold ownU;rw[if_pos hr256]
   have hw: -1-(vt r).head=r:=by rw[aaq];omega
   rw[hor] at htr;have hu:=htr.inv_var (by rw[aaq];omega) (by rw[hw,hRr];exact hr256);rw[hw,hRr] at hu;have hb:af1 R (f+1) S v=some (vt r,S):=by rw[af1,hr,if_pos hr256]
   refine⟨fun x S' h=> ?_,fun _=>⟨_,hb⟩⟩;rw[hb] at h;simp only[aJ,Prod.mk.injEq] at h;obtain⟨rfl,rfl⟩:=h;exact⟨hu.symm,Ext.refl _,hF⟩
  ·rw[abC (by omega)] at htr;obtain⟨_,hd,_⟩:=abr hF.ok (v:=r) (by omega) (by omega);obtain⟨e1,e2,e3⟩:=htr.inv_app hd;have hfin1:=hF.args r;have hext:=Ext.args hF.ok r;obtain⟨_,hle1,hval1⟩:=hF.ok.args r;have hla:(aac S r).2.length=(aa5 S r).args.length:=abi hr256 (by omega) hF.ok.made;have hns:=acJ (S:=S) (v:=r) (by omega) (by omega);have hst:=aaz (syms:=S) r (u:=r) (by omega)
   obtain⟨b1,b2⟩:=aqQ ih (aac S r).2 u.args [] (aac S r).1 hfin1 (by omega) hval1 (fun k a y ha hy=>by
    have hkl:=(ah.1 ha).1;have hx:=ai (show k<(aa5 S r).args.length by omega);have hoa:=hfin1.argo r a _ (by omega) (by omega) k (by rw[hns];exact ha) (by rw[hst];exact hx);rw[hoa];exact(e3 k _ y hx hy).more hext hF.ok)
   refine⟨fun x S' h=> ?_,fun hs=> ?_⟩
   ·rw[af1,hr,if_neg hr256] at h;cases hL:amp (af1 R f) [] (aac S r).2 (aac S r).1 with
    |none=>rw[hL] at h;cases h
    |some z=>
     obtain⟨ts,S2⟩:=z;rw[hL] at h;simp only[aJ,Prod.mk.injEq] at h;obtain⟨rfl,rfl⟩:=h;obtain⟨r1,r2,r3⟩:=b1 ts S2 hL;refine⟨?_,hext.trans r2,r3⟩;rw[r1,List.nil_append,←e1,T.eta u]
   ·rw[af1,hr,if_neg hr256];obtain⟨⟨ts,S2⟩,hz⟩:=b2 (fun y hy=>by have:=ab0 hy;omega);rw[hz];exact⟨_,rfl⟩
theorem asJ(R:Int->Int)(f:Nat):∀(vs:List Int) (us:List T) (acc:Sb) (S:List SyU),aiH S R->us.length=vs.length->(∀v∈vs,0<=v/\v<256+(S.length:Int))->(∀(k:Nat) (v:Int) (u:T),vs[k]? =some v->us[k]? =some u->TV S R (ownU S v) u)->
 (∀s S',alm R f acc vs S=some (s,S')->s=acc++vs.zip us)/\((∀u∈us,u.size<=f)->∃z,alm R f acc vs S=some z):=by
 intro vs
 induction vs with
 |nil=>
  intro us acc S hF hl _ _;refine⟨fun s S' h=> ?_,fun _=>⟨_,rfl⟩⟩;simp only[alm,aJ,Prod.mk.injEq] at h;obtain⟨rfl,rfl⟩:=h;simp
 |cons v vs ih=>
  intro us acc S hF hl hv ht;cases us with
  |nil=>simp at hl
  |cons u us=>
   have hva:=hv v (by simp);obtain⟨o1,o2⟩:=asI R f S v u hF hva.1 hva.2 (ht 0 v u rfl rfl)
   have next:∀S',Ext S S'->aiH S' R->(∀x∈vs,0<=x/\x<256+(S'.length:Int))/\∀(k:Nat) (x:Int) (y:T),vs[k]? =some x->us[k]? =some y->TV S' R (ownU S' x) y:=fun S' he hF'=>
    ⟨fun x hx=>by have:=hv x (by simp[hx]);have:=he.len;omega,fun k x y hx hy=>by
     have hxv:=hv x (by simp[ak hx]);rw[he.ownU x hxv.2];exact(ht (k+1) x y (by simpa using hx) (by simpa using hy)).more he hF.ok⟩
   refine⟨fun s S' h=> ?_,fun hs=> ?_⟩
   ·rw[alm] at h;cases hfa:af1 R f S v with
    |none=>rw[hfa] at h;cases h
    |some z=>
     obtain⟨x,S1⟩:=z;rw[hfa] at h;simp only at h;obtain⟨rfl,e1,f1⟩:=o1 _ _ hfa;obtain⟨n1,n2⟩:=next S1 e1 f1;rw[(ih us (acc++[(v,x)]) S1 f1 (by simpa using hl) n1 n2).1 s S' h];simp
   ·obtain⟨⟨x,S1⟩,hfa⟩:=o2 (hs u (by simp));rw[alm,hfa];simp only;obtain⟨_,e1,f1⟩:=o1 _ _ hfa;obtain⟨n1,n2⟩:=next S1 e1 f1;exact(ih us (acc++[(v,x)]) S1 f1 (by simpa using hl) n1 n2).2 (fun y hy=>hs y (by simp[hy]))
open Go.Sort
def IM(x y:T)(k:Nat)(s:St)(m:Nat):Prop:=
 match k with
 |0=>s=st0
 |1=>aek (fun θ=>x.sub θ=y.sub θ) s m
 |_=>False
theorem anm{S:List SyU}{t:T}{x:SyU}(h:x∈abU S t):x∈S\/(x=(t,[])/\¬t.head<0):=by
 unfold abU at h;split at h
 ·exact .inl h
 ·rename_i hn
  rcases aG.1 h with h|h
  ·exact .inl h
  ·simp at h;exact .inr ⟨h,hn⟩
theorem ann(S:List SyU)(t:T):pot (abU S t)<=pot S+t.size:=by
 have:=ae4 [t] S;simpa[aag,T.sizes] using this
theorem aqR{x y:T}(hx:x.check=0)(hy:y.check=0):aek (fun θ=>x.sub θ=y.sub θ) (ajV st0 x y) (1001*5256+1):=by
 obtain⟨xs,_,xg⟩:=aam hx;obtain⟨ys,_,yg⟩:=aam hy
 have hmem:∀z∈(ajV st0 x y).syms,(z=(x,[])/\¬x.head<0)\/(z=(y,[])/\¬y.head<0):=fun z hz=>by
  rcases anm hz with hz|hz
  ·rcases anm hz with hz|hz
   ·simp[st0] at hz
   ·exact .inl hz
  ·exact .inr hz
 have hnil:∀z∈(ajV st0 x y).syms,z.2=[]:=fun z hz=>by rcases hmem z hz with⟨rfl,_⟩|⟨rfl,_⟩<;>rfl
 have hR:∀v,(ajV st0 x y).R v=v:=fun v=>rfl;have a1:=adM (S:=st0.syms) xg;have a2:=adM (S:=abU st0.syms x) yg
 have hox:ownU (ajV st0 x y).syms (ahn st0.syms x)=x:=by
  obtain⟨l,hl⟩:=ar1 (abU st0.syms x) y;show ownU (abU (abU st0.syms x) y) _=x;rw[hl,al1 a1.2.1];exact al0 xg
 have hoy:ownU (ajV st0 x y).syms (ahn (abU st0.syms x) y)=y:=al0 yg;have hlen:(abU (abU st0.syms x) y).length=(ajV st0 x y).syms.length:=rfl;refine⟨⟨?_,fun z hz=> ?_,fun z hz=> ?_,fun z hz=> ?_,fun z hz=> .inl (hnil z hz),fun z hz w hw=> ?_,fun v hv=>absurd (hR v) hv⟩,fun v=>rfl,fun v z t h0 h1 k hz ht=> ?_,fun v hv=>hv,fun v _ _=>Int.le_refl _,fun θ hθ=>⟨fun v hv=>absurd (hR v) hv,fun p hp=> ?_⟩,fun θ _ h=> ?_,fun v _ hv=>absurd (hR v) hv,⟨by simp[ajV,st0],fun z=> ?_⟩,⟨[],by simp,rfl,fun z=> ?_⟩,fun p hp=> ?_,by simp[ajV,st0],by simp[ajV,st0]⟩
 ·have h1:=ann (abU st0.syms x) y;have h2:=ann st0.syms x;have h3:pot st0.syms=0:=rfl;show pot (abU (abU st0.syms x) y)<=5000;omega
 ·rcases hmem z hz with⟨rfl,_⟩|⟨rfl,_⟩<;>simp only<;>omega
 ·rcases hmem z hz with⟨rfl,h⟩|⟨rfl,h⟩<;>exact h
 ·rcases hmem z hz with⟨rfl,_⟩|⟨rfl,_⟩
  ·exact xg
  ·exact yg
 ·rw[hnil z hz] at hw;simp at hw
 ·obtain⟨w,hw,_,e2⟩:=aeb (S:=(ajV st0 x y).syms) h0 h1;rw[e2,hnil w (ak hw)] at hz;simp at hz
 ·simp[ajV] at hp;subst hp;unfold acH;simp only;rw[hox,hoy];exact hθ
 ·have:=h (ahn st0.syms x,ahn (abU st0.syms x) y) (by simp[ajV]);unfold acH at this;simp only at this;rw[hox,hoy] at this;exact this
 ·simp[ajV,st0]
 ·simp[hR]
 ·simp[ajV] at hp;subst hp;simp only;rw[←hlen];omega
theorem axr:Fit st0:=⟨by simp[st0],by simp[st0],by simp[st0],by simp[st0],by simp[st0],by simp[st0],by simp[st0],by simp[st0]⟩
theorem asK(u:T)(hg:bad (T.subs 1 u)=false):alg (msr u)=u.check:=by
 unfold alg msr T.check;rw[hg];simp only;by_cases h1:400<u.size
 ·rw[if_pos (by omega),if_pos h1]
 ·rw[if_neg (by omega),if_neg h1];by_cases h2:40<u.depth
  ·rw[if_pos (by omega),if_pos h2]
  ·rw[if_neg (by omega),if_neg h2];rfl
theorem aws{S:List SyU}{R:Int->Int}(h:aiH S R):aq7 R S (fun _=>none) [] 0:=
 ⟨h,⟨[],by simp,rfl,by simp,by simp,by simp⟩,by simp,by simp,by simp⟩
theorem aiE:∀us:List T,(∀u∈us,bad (T.subs 1 u)=false)->bad (T.subss 2 us)=false
 |[],_=>rfl
 |u::us,h=>by
  have h1:bad (T.subs 2 u++T.subss 2 us)=(bad (T.subs 2 u)||bad (T.subss 2 us)):=by simp[bad]
  rw[T.subss,h1,acz 2 1,h u (by simp),aiE us (fun x hx=>h x (by simp[hx]))];rfl
theorem auY{S:List SyU}{R:Int->Int}(h:aiH S R){t u:T}(ht:TV S R t u):bad (T.subs 1 t)=false->bad (T.subs 1 u)=false:=by
 induction ht with
 |var h1 h0 h2=>
  rename_i t;intro hg;have hw:0<= -1-t.head:=by omega
  have hr:0<=R (-1-t.head):=by
   by_cases e:R (-1-t.head)= -1-t.head
   ·rw[e];exact hw
   ·exact(h.ok.rv _ e).2.1
  exact(aam (ajp hr (by omega))).2.2
 |link h1 h0 h2 _ ih=>
  rename_i t u _;intro _;refine ih ?_;have e:R (-1-t.head)≠ -1-t.head:=by omega
  exact(abr h.ok (by omega) (h.ok.rv _ e).2.2).2.2
 |app h1 h2 h3 ih=>
  rename_i t us;intro hg;have hh:=aaI hg;rw[af8,T.head_node,T.args_node,h2,hh];simp only[Bool.not_true,Bool.false_or];refine aiE us (fun y hy=> ?_);obtain⟨k,hk⟩:=au hy;have hkl:k<t.args.length:=by have:=(ah.1 hk).1;omega
  exact ih k _ y (ai hkl) hk (aaA hg (ai hkl))
theorem ak9{E:(Int->T)->Prop}{s:St}{m:Nat}(h:aek E s m)(hs:s.stk=[]):
 (∀z∈sorted s.vars,0<=z/\z<256)/\
 (∀f r S',amr s.R f [] (sorted s.vars) s.syms (fun _=>none)=some (r,S')->(r=none->∀θ,¬ab6 s.syms s.R θ)/\∀ms,r=some ms->∃us:List T,us.length=(sorted s.vars).length/\ms=us.map msr/\Ext s.syms S'/\aiH S' s.R/\(∀(k:Nat) (v:Int) (u:T),(sorted s.vars)[k]? =some v->us[k]? =some u->TV S' s.R (ownU S' v) u)/\
  (∀f' t S'',alm s.R f' [] (sorted s.vars) S'=some (t,S'')->t=(sorted s.vars).zip us)/\((∀u∈us,u.size<=400)->∃z,alm s.R 400 [] (sorted s.vars) S'=some z))/\
 (∃z,amr s.R 5257 [] (sorted s.vars) s.syms (fun _=>none)=some z):=by
 have hF:=h.fin hs
 have hv:∀z∈sorted s.vars,0<=z/\z<256:=fun z hz=>by
  have h1:=(h.vars.2 z).1 (by unfold sorted at hz;exact List.mem_mergeSort.1 hz);exact⟨(h.ok.rv z h1.2).1.1,h1.1⟩
 refine⟨hv,fun f r S' hm=> ?_,?_⟩
 ·obtain⟨p1,p2⟩:=(anl s.R f (sorted s.vars) [] s.syms (fun _=>none) 0 (aws hF) (fun z hz=>by have:=hv z hz;omega)).1 r S' hm;refine⟨p1,fun ms hms=> ?_⟩;obtain⟨us,k1,k2,k3,k4,k5⟩:=p2 ms hms;have hu:=fun f'=>asJ s.R f' (sorted s.vars) us [] S' k4 k1 (fun z hz=>by have:=hv z hz;omega) k5;refine⟨us,k1,by simpa using k2,k3,k4,k5,fun f' t S'' ht=>by simpa using(hu f').1 t S'' ht,fun hsz=>(hu 400).2 hsz⟩
 ·have:=h.ok.pot;exact(anl s.R 5257 (sorted s.vars) [] s.syms (fun _=>none) 0 (aws hF) (fun z hz=>by have:=hv z hz;omega)).2 (by omega)
theorem aqS{ms:List (Int×Int)}:aiI ms=0->∀m∈ms,alg m=0:=by
 induction ms with
 |nil=>simp
 |cons m ms ih=>
  intro h x hx;rw[aiI] at h;split at h
  ·rename_i h0
   rcases List.mem_cons.1 hx with rfl|hx
   ·exact h0
   ·exact ih h x hx
  ·rename_i h0;exact absurd h h0
theorem asL{x y:T}(hx:x.check=0)(hy:y.check=0):aw1 (IM x y) [x] [y]:=by
 refine⟨⟨0,rfl⟩,fun k=> ?_,fun k s m a b hI hs ha hb=> ?_,fun s m hI hs=> ?_⟩
 ·match k with
  |0=>exact⟨fun s m h=>by have:s=st0:=h;subst this;exact axr,fun s m p q rest s' h hs _=>by have:s=st0:=h;subst this;simp[st0] at hs⟩
  |1=>exact aek.handing _
  |k+2=>exact⟨fun s m h=>h.elim,fun s m p q rest s' h _ _=>h.elim⟩
 ·match k with
  |0=>
   simp at ha hb;subst ha hb;have:s=st0:=hI;subst this;exact⟨_,aqR hx hy⟩
  |k+1=>simp at ha
 ·have hU:aek (fun θ=>x.sub θ=y.sub θ) s m:=hI;obtain⟨l1,l2,⟨⟨r,S'⟩,l3⟩⟩:=ak9 hU hs;refine⟨hU.ok,fun z hz=>by have h1:=(hU.vars.2 z).1 hz;exact⟨(hU.ok.rv z h1.2).1.1,h1.1⟩,5257,(r,S'),l3,fun ms hms hex=> ?_⟩;simp only at hms;obtain⟨us,k1,k2,k3,k4,k5,k6,k7⟩:=(l2 _ _ _ l3).2 ms hms
  obtain⟨z,hz⟩:=k7 (fun u hu=>by
   have h0:=aqS hex (msr u) (by rw[k2];exact List.mem_map.2 ⟨u,hu,rfl⟩);unfold alg msr at h0;simp only at h0;split at h0
   ·cases h0
   ·omega)
  exact⟨400,z.1,z.2,hz⟩
structure abG (E:(Int->T)->Prop) (s:Sb):Prop where
 rise:(s.map Prod.fst).Pairwise (· < ·)
 low:∀p∈s,0<=p.1/\p.1<=255
 good:∀p∈s,bad (T.subs 1 p.2)=false
 free:∀p∈s,∀q∈T.subs 1 p.2,q.2.head<0->bnd s (-1-q.2.head)=false
 orient:∀p∈s,p.2.head<0-> -1-p.2.head<p.1
 unif:E (ofS s)
 most:∀θ,E θ->∀v,0<=v->v<=255->θ v=(ofS s v).sub θ
theorem aqT:∀(vs:List Int) (us:List T),us.length=vs.length->vs.Nodup->∀(k:Nat) (v:Int) (u:T),vs[k]? =some v->us[k]? =some u->ofS (vs.zip us) v=u
 |[],us,_,_,k,v,u,hv,_=>by simp at hv
 |x::vs,[],hl,_,_,_,_,_,_=>by simp at hl
 |x::vs,y::us,hl,hd,0,v,u,hv,hu=>by
  simp at hv hu;subst hv hu;rw[List.zip_cons_cons,ofS,if_pos rfl]
 |x::vs,y::us,hl,hd,k+1,v,u,hv,hu=>by
  rw[List.nodup_cons] at hd;have hv':vs[k]? =some v:=by simpa using hv
  have hne:x≠v:=fun e=>hd.1 (by rw[e];exact ak hv');rw[List.zip_cons_cons,ofS,if_neg hne];exact aqT vs us (by simpa using hl) hd.2 k v u hv' (by simpa using hu)
theorem aqU{vs:List Int}{us:List T}(h:us.length=vs.length)(v:Int):bnd (vs.zip us) v=true↔v∈vs:=by
 rw[aec,List.map_fst_zip (by omega)]
theorem asM{S:List SyU}{R:Int->Int}(h:aiH S R){t u:T}(ht:TV S R t u):∀(l:Nat),∀q∈T.subs l u,q.2.head<0->R (-1-q.2.head)= -1-q.2.head/\ -1-q.2.head<256:=by
 induction ht with
 |var h1 h0 h2=>
  rename_i t;intro l q hq hn;simp[vt,T.subs,T.subss] at hq;subst hq;simp only[T.head_node];rw[show-1-(-1-R (-1-t.head))=R (-1-t.head) from by omega];exact⟨h.idem _,h2⟩
 |link _ _ _ _ ih=>exact ih
 |app h1 h2 h3 ih=>
  rename_i t us;intro l q hq hn;rw[T.subs] at hq
  rcases List.mem_cons.1 hq with rfl|hq
  ·simp only[T.head_node] at hn;exact absurd hn h1
  ·have:∀(ws:List T) (l:Nat),q∈T.subss l ws->∃w∈ws,q∈T.subs l w:=by
    intro ws
    induction ws with
    |nil=>intro l h;simp[T.subss] at h
    |cons w ws ih2=>
     intro l h;rw[T.subss] at h
     rcases aG.1 h with h|h
     ·exact⟨w,by simp,h⟩
     ·obtain⟨x,hx,hq⟩:=ih2 l h;exact⟨x,by simp[hx],hq⟩
   obtain⟨w,hw,hqw⟩:=this us (l+1) hq;obtain⟨k,hk⟩:=au hw;have hkl:k<t.args.length:=by have:=(ah.1 hk).1;omega
   exact ih k _ w (ai hkl) hk (l+1) q hqw hn
theorem aqV{E:(Int->T)->Prop}{s:St}{m:Nat}(h:aek E s m):(sorted s.vars).Pairwise (· < ·)/\(sorted s.vars).Nodup/\∀z,z∈sorted s.vars↔(z<256/\s.R z≠z):=by
 have h1:(sorted s.vars).Pairwise (· <= ·):=by
  have:=List.pairwise_mergeSort (le:=fun x y:Int=>decide (x<=y)) (by intro a b c;simp;omega) (by intro a b;simp;omega) s.vars;exact this.imp (by intro a b;simp)
 have h2:(sorted s.vars).Nodup:=by
  have:=(List.mergeSort_perm s.vars (fun x y:Int=>decide (x<=y))).nodup_iff;exact this.2 h.vars.1
 refine⟨?_,h2,fun z=> ?_⟩
 ·exact(h1.and h2).imp (fun{a b} hab=>by have:=hab.1;have:=hab.2;omega)
 ·unfold sorted;rw[List.mem_mergeSort];exact h.vars.2 z
theorem asN{E:(Int->T)->Prop}{s:St}{m:Nat}(h:aek E s m)(hs:s.stk=[]){S':List SyU}{us:List T}(hl:us.length=(sorted s.vars).length)(he:Ext s.syms S')(hF:aiH S' s.R)(hv:∀(k:Nat) (v:Int) (u:T),(sorted s.vars)[k]? =some v->us[k]? =some u->TV S' s.R (ownU S' v) u):abG E ((sorted s.vars).zip us):=by
 obtain⟨r1,r2,r3⟩:=aqV h;have hov:∀v:Int,v<256->ownU S' v=vt v:=fun v hv=>by unfold ownU;rw[if_pos hv]
 have hσ:∀v,0<=v->v<256->TV S' s.R (vt v) (ofS ((sorted s.vars).zip us) v):=fun v h0 h1=>by
  by_cases hb:v∈sorted s.vars
  ·obtain⟨k,hk⟩:=au hb;have hkl:k<us.length:=by have:=(ah.1 hk).1;omega
   rw[aqT _ _ hl r2 k v _ hk (ai hkl),←hov v h1];exact hv k v _ hk (ai hkl)
  ·have hbf:bnd ((sorted s.vars).zip us) v=false:=by
    cases hb2:bnd ((sorted s.vars).zip us) v
    ·rfl
    ·exact absurd ((aqU hl v).1 hb2) hb
   rw[aax hbf]
   have hRv:s.R v=v:=by
    by_cases e:s.R v=v
    ·exact e
    ·exact absurd ((r3 v).2 ⟨h1,e⟩) hb
   have hw: -1-(vt v).head=v:=by rw[aaq];omega
   have ht:=TV.var (S:=S') (R:=s.R) (t:=vt v) (by rw[aaq];omega) (by rw[hw];exact h1) (by rw[hw,hRv];exact h1);rw[hw,hRv] at ht;exact ht
 have hT:∀(N:Nat) (t:T),t.size<=N->bad (T.subs 1 t)=false->TV S' s.R t (t.sub (ofS ((sorted s.vars).zip us))):=by
  intro N
  induction N with
  |zero=>intro t ht;have:=T.size_pos t;omega
  |succ N ih=>
   intro t ht hg;by_cases q:t.head<0
   ·have h1:=aaI hg;simp only[okB,if_pos q,Bool.and_eq_true,decide_eq_true_iff] at h1;have h2:=aaZ hg q
    have ht2:t=vt (-1-t.head):=by
     unfold vt;rw[show-1-(-1-t.head)=t.head from by omega,←h2,T.eta]
    rw[T.sub_neg q];have:=hσ (-1-t.head) (by omega) (by omega);rw[←ht2] at this;exact this
   ·rw[T.sub_pos q];refine TV.app q (by simp) (fun k x y hx hy=> ?_);rw[List.getElem?_map,hx] at hy;simp only[Option.map_some,aJ] at hy;subst hy;exact ih x (by have:=ab0 (ak hx);omega) (aaA hg hx)
 have hgood:∀v:Int,0<=v->v<256+(S'.length:Int)->bad (T.subs 1 (ownU S' v))=false:=fun v h0 h1=>by
  by_cases e:v<256
  ·rw[hov v e];exact(aam (ajp h0 (by omega))).2.2
  ·rw[abC (by omega)];exact(abr hF.ok (by omega) h1).2.2
 have hLE:ab6 S' s.R (ofS ((sorted s.vars).zip us)):=fun v hv=>by
  have hrv:=hF.ok.rv v hv;have t1:=hT _ (ownU S' v) (af _) (hgood v hrv.1.1 hrv.1.2);have t2:=hT _ (ownU S' (s.R v)) (af _) (hgood _ hrv.2.1 hrv.2.2);have t3:=(ajR hF _ _ (af _) v hrv.1.1 hrv.1.2).1 t1;exact t3.unique t2
 have hmem:∀p∈(sorted s.vars).zip us,∃k:Nat,(sorted s.vars)[k]? =some p.1/\us[k]? =some p.2:=fun p hp=>by
  obtain⟨k,hk⟩:=au hp;rw[show p=(p.1,p.2) from rfl,List.getElem?_zip_eq_some] at hk;exact⟨k,hk⟩
 have hpv:∀p∈(sorted s.vars).zip us,(0<=p.1/\p.1<256)/\s.R p.1≠p.1/\TV S' s.R (vt p.1) p.2:=fun p hp=>by
  obtain⟨k,k1,k2⟩:=hmem p hp;have h1:=(r3 p.1).1 (ak k1);have h2:=(h.ok.rv _ h1.2).1;have:=hv k p.1 p.2 k1 k2;rw[hov _ h1.1] at this;exact⟨⟨h2.1,h1.1⟩,h1.2,this⟩
 refine⟨by rw[List.map_fst_zip (by omega)];exact r1,fun p hp=> ?_,fun p hp=> ?_,fun p hp q hq hn=> ?_,fun p hp hn=> ?_,?_,fun θ hθ v h0 h1=> ?_⟩
 ·have:=(hpv p hp).1;omega
 ·obtain⟨⟨h0,h1⟩,_,ht⟩:=hpv p hp;exact auY hF ht (aam (ajp h0 (by omega))).2.2
 ·obtain⟨_,_,ht⟩:=hpv p hp;obtain⟨hr,hlt⟩:=asM hF ht 1 q hq hn;cases hb:bnd ((sorted s.vars).zip us) (-1-q.2.head)
  ·rfl
  ·exact absurd hr ((r3 _).1 ((aqU hl _).1 hb)).2
 ·obtain⟨⟨h0,h1⟩,hne,ht⟩:=hpv p hp;have hvn:(vt p.1).head<0:=by rw[aaq];omega
  have hw: -1-(vt p.1).head=p.1:=by rw[aaq];omega
  by_cases hr:s.R p.1<256
  ·have hu:=ht.inv_var hvn (by rw[hw];exact hr);rw[hw] at hu;rw[hu,aaq];have:=h.vmin p.1 h1 hr;omega
  ·have hu:=ht.inv_link hvn (by rw[hw];exact hr);rw[hw] at hu;obtain⟨_,hd,_⟩:=abr hF.ok (v:=s.R p.1) (by omega) (hF.ok.rv _ hne).2.2;obtain⟨e1,_⟩:=hu.inv_app hd;rw[e1] at hn;exact absurd hn hd
 ·exact h.cmp _ ((he.linkEq h.ok _).1 hLE) (fun p hp=>by rw[hs] at hp;simp at hp)
 ·have:=awq ((he.linkEq h.ok θ).2 (h.gen θ hθ).1) (hσ v h0 (by omega));rw[T.sub_neg (by rw[aaq];omega),aaq,show-1-(-1-v)=v from by omega] at this;exact this
theorem ala:∀(vs:List Int) (us:List T),us.length=vs.length->(∀u∈us,bad (T.subs 1 u)=false)->ae5 (vs.zip us)=aiI (us.map msr)
 |[],us,h,_=>by
  have:us=[]:=aC (by simpa using h);subst this;rfl
 |v::vs,[],h,_=>by simp at h
 |v::vs,u::us,h,hg=>by
  rw[List.zip_cons_cons,ae5,List.map_cons,aiI,asK u (hg u (by simp)),ala vs us (by simpa using h) (fun x hx=>hg x (by simp[hx]))]
def amm(x y:T)(w:World)(e:Ending)(w':World):Prop:=
 ((x.check≠0\/y.check≠0)/\acw [] false 1 w e w')\/
 ((x.check=0/\y.check=0)/\(((∀θ:Int->T,x.sub θ≠y.sub θ)/\acw [] false 0 w e w')\/
   ∃s,abG (fun θ=>x.sub θ=y.sub θ) s/\((ae5 s≠0/\acw [] false (ae5 s) w e w')\/(ae5 s=0/\acw s true 0 w e w'))))
theorem aeJ(x:T):abv [x]=decide (x.check≠0):=by simp[abv]
theorem asO{x y:T}{w w':World}{e:Ending}(h:abN (IM x y) [x] [y] w e w'):amm x y w e w':=by
 rcases h with⟨hb,h⟩|⟨⟨_,hb1,hb2⟩,h⟩
 ·refine .inl ⟨?_,h⟩
  rcases hb with hb|hb|hb
  ·simp at hb
  ·rw[aeJ] at hb;exact .inl (of_decide_eq_true hb)
  ·rw[aeJ] at hb;exact .inr (of_decide_eq_true hb)
 ·rw[aeJ] at hb1 hb2;have hx:x.check=0:=by simpa using hb1
  have hy:y.check=0:=by simpa using hb2
  refine .inr ⟨⟨hx,hy⟩,?_⟩
  rcases h with⟨⟨k,s,m,p,q,rest,hk,hI,hs,hu⟩,h⟩|⟨s,m,f,r,hI,hs,hm,h⟩
  ·have hk0:k=0:=by simp at hk;exact hk
   subst hk0;have hU:aek (fun θ=>x.sub θ=y.sub θ) s m:=hI;exact .inl ⟨fun θ hθ=>hU.none hs hu θ hθ,h⟩
  ·have hU:aek (fun θ=>x.sub θ=y.sub θ) s m:=hI;obtain⟨_,l2,_⟩:=ak9 hU hs;obtain⟨p1,p2⟩:=l2 f r.1 r.2 hm
   rcases h with⟨hr,h⟩|⟨ms,hr,h⟩
   ·exact .inl ⟨fun θ hθ=>p1 hr θ (hU.gen θ hθ).1,h⟩
   ·obtain⟨us,k1,k2,k3,k4,k5,k6,_⟩:=p2 ms hr;have hM:=asN hU hs k1 k3 k4 k5
    have hg:∀u∈us,bad (T.subs 1 u)=false:=fun u hu=>by
     obtain⟨k,hk⟩:=au hu;have hkl:k<(sorted s.vars).length:=by have:=(ah.1 hk).1;omega
     exact hM.good ((sorted s.vars)[k],u) (ak (i:=k) (by rw[List.getElem?_zip_eq_some];exact⟨ai hkl,hk⟩))
    have hE:=ala (sorted s.vars) us k1 hg;rw[←k2] at hE;refine .inr ⟨_,hM,?_⟩;rw[hE]
    rcases h with⟨h1,h⟩|⟨h1,f',u,S2,hu,h⟩
    ·exact .inl ⟨h1,h⟩
    ·refine .inr ⟨h1,?_⟩;rw[←k6 f' u S2 hu];exact h
theorem ano(x y:T)(hx:x.size<=1000000000000)(hy:y.size<=1000000000000)(aM:Nat)(a:Option Addr)(c:Nat)(a':Option Addr)(c':Nat)(w:World)(hn:aM<=w.heap.size)(hxw:(Lit.int .i64 x.head).wf=true)(hyw:(Lit.int .i64 y.head).wf=true)(hA:aab aM w x.args a c)(hA':aab aM w y.args a' c'):
 Calls Tryz.prog 57 #[tm x.head a x.args.length c,tm y.head a' y.args.length c'] w fun e w'=>∃w0,Below w.heap.size w w0/\amm x y w0 e w':=
 (atv (IM x y) x y (fun h=>by
  rw[aeJ,aeJ] at h;exact asL (by simpa using h.1) (by simpa using h.2)) hx hy aM a c a' c' w hn hxw hyw hA hA').mono fun e w' ⟨w0,h1,h2⟩=>⟨w0,h1,asO h2⟩
end Go.Proofs.YtabfapijgfjflaaGreat
namespace Go.Proofs.YtabfapijgfjflaaGreat
open Go.RowKit
theorem afh:∀{s:Sb},(s.map Prod.fst).Pairwise (· < ·)->∀{p:Int×T},p∈s->ofS s p.1=p.2
 |[],_,p,h=>by simp at h
 |(x,t)::s,hr,p,h=>by
  rw[List.map_cons,List.pairwise_cons] at hr
  rcases List.mem_cons.1 h with rfl|h
  ·rw[ofS,if_pos rfl]
  ·have hlt:=hr.1 p.1 (List.mem_map.2 ⟨p,h,rfl⟩);rw[ofS,if_neg (by simp only at hlt;omega)];exact afh hr.2 h
theorem aoy{s:Sb}{p:Int×T}(h:p∈s):bnd s p.1=true:=aec.2 (List.mem_map.2 ⟨p,h,rfl⟩)
theorem aa9{s:Sb}(hr:(s.map Prod.fst).Pairwise (· < ·)){v:Int}(h:bnd s v=true):(v,ofS s v)∈s:=by
 obtain⟨p,hp,rfl⟩:=List.mem_map.1 (aec.1 h);rw[afh hr hp];exact hp
theorem alb{q:Nat×T}:∀{ts:List T} {t:T} {l:Nat},t∈ts->q∈T.subs l t->q∈T.subss l ts
 |s::ts,t,l,ht,hq=>by
  rw[T.subss]
  rcases List.mem_cons.1 ht with rfl|ht
  ·exact aG.2 (.inl hq)
  ·exact aG.2 (.inr (alb ht hq))
theorem awt{f:Int->T}:∀(N:Nat) (t:T),t.size<=N->bad (T.subs 1 t)=false->∀l,(∀q∈T.subs l t,q.2.head<0->f (-1-q.2.head)=vt (-1-q.2.head))->t.sub f=t:=by
 intro N
 induction N with
 |zero=>intro t ht;have:=T.size_pos t;omega
 |succ N ih=>
  intro t ht hg l hf;by_cases q:t.head<0
  ·have h2:=aaZ hg q;rw[T.sub_neg q,hf (l,t) (by cases t;simp[T.subs]) q];unfold vt;rw[show-1-(-1-t.head)=t.head from by omega,←h2,T.eta]
  ·rw[T.sub_pos q]
   have:t.args.map (T.sub f)=t.args:=by
    refine afg (by simp) (fun k x y hx hy=> ?_);rw[List.getElem?_map,hy] at hx;simp only[Option.map_some,aJ] at hx;subst hx;have hym:=ak hy;refine ih y (by have:=ab0 hym;omega) (aaA hg hy) (l+1) (fun r hr hn=>hf r ?_ hn);cases t with
    |node h ts=>rw[T.subs];exact List.mem_cons.2 (.inr (alb hym hr))
   rw[this,T.eta]
theorem abG.unbound{E:(Int->T)->Prop}{s s':Sb}(h:abG E s)(h':abG E s'){v:Int}(h0:0<=v)(h1:v<=255)(hb:bnd s v=false):bnd s' v=false:=by
 cases hb':bnd s' v
 ·rfl
 ·exfalso;have hm:=aa9 h'.rise hb';have e1:=h'.most (ofS s) h.unif v h0 h1;rw[aax hb] at e1;have hg:=h'.good _ hm;by_cases q:(ofS s' v).head<0
  ·have ho:=h'.orient _ hm q;have hh:=aaI hg;simp only[okB,if_pos q,Bool.and_eq_true,decide_eq_true_iff] at hh ho;rw[T.sub_neg q] at e1;have hw0:0<= -1-(ofS s' v).head:=by omega
   cases hbw:bnd s (-1-(ofS s' v).head)
   ·rw[aax hbw] at e1;have:=congrArg T.head e1;rw[aaq,aaq] at this;omega
   ·have hm2:=aa9 h.rise hbw;rw[←e1] at hm2;have:=h.orient _ hm2 (by simp only;rw[aaq];omega);simp only[aaq] at this;omega
  ·rw[T.sub_pos q] at e1;have:=congrArg T.head e1;rw[aaq,T.head_node] at this;omega
theorem abG.bnd_low{E:(Int->T)->Prop}{s:Sb}(h:abG E s){v:Int}(hb:bnd s v=true):0<=v/\v<=255:=by
 obtain⟨p,hp,rfl⟩:=List.mem_map.1 (aec.1 hb);exact h.low p hp
theorem abG.same_bnd{E:(Int->T)->Prop}{s s':Sb}(h:abG E s)(h':abG E s')(v:Int):bnd s v=bnd s' v:=by
 cases hb:bnd s v
 ·cases hb':bnd s' v
  ·rfl
  ·have hl:=h'.bnd_low hb';rw[h.unbound h' hl.1 hl.2 hb] at hb';exact hb'
 ·cases hb':bnd s' v
  ·have hl:=h.bnd_low hb;rw[h'.unbound h hl.1 hl.2 hb'] at hb;exact hb.symm
  ·rfl
theorem abG.unique{E:(Int->T)->Prop}{s s':Sb}(h:abG E s)(h':abG E s'):s=s':=by
 have hv:∀v,bnd s v=true->ofS s' v=ofS s v:=fun v hb=>by
  have hl:=h.bnd_low hb;have hm:=aa9 h.rise hb;rw[show ofS s' v=(ofS s v).sub (ofS s') from h.most (ofS s') h'.unif v hl.1 hl.2];refine awt _ _ (af _) (h.good _ hm) 1 (fun q hq hn=> ?_);have:=h.free _ hm q hq hn;rw[h.same_bnd h'] at this;exact aax this
 have hf:s.map Prod.fst=s'.map Prod.fst:=ajm h.rise h'.rise (fun z=>by
  rw[←aec,←aec,h.same_bnd h'])
 have hl:s.length=s'.length:=by have:=congrArg List.length hf;simpa using this
 apply List.ext_getElem hl;intro i h1 h2
 have e1:s[i].1=s'[i].1:=by
  have:=congrArg (fun l=>l[i]?) hf;simpa[List.getElem?_map,ai h1,ai h2] using this
 have m1:s[i]∈s:=List.getElem_mem h1;have m2:s'[i]∈s':=List.getElem_mem h2;have e2:=afh h.rise m1;have e3:=afh h'.rise m2;refine Prod.ext e1 ?_;rw[←e2,←e3,←e1];exact(hv _ (aoy m1)).symm
end Go.Proofs.YtabfapijgfjflaaGreat
