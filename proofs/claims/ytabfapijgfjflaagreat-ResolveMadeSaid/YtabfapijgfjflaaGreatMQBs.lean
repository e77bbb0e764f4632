import Derived.Test.YtabfapijgfjflaaGreatMQBr
import Derived.Test.YtabfapijgfjflaaGreatMAlU
import Derived.Test.YtabfapijgfjflaaGreatMQBm
import Derived.Test.YtabfapijgfjflaaGreatMQBp
import Derived.Test.YtabfapijgfjflaaGreatMQBa
import Derived.Test.YtabfapijgfjflaaGreatMQBd
import Derived.Test.YtabfapijgfjflaaGreatMQBb
import Derived.Deep.AppendLies
import Derived.Test.YtabfapijgfjflaaGreatMQBn
import Derived.Lib.AppendZerosOnto
import Derived.Lib.SliceRun
import Derived.Test.YtabfapijgfjflaaGreatMAl
set_option linter.unusedVariables false
set_option linter.unusedSimpArgs false
namespace Go.Proofs.YtabfapijgfjflaaGreat
open Go.RowKit
def ownU(S:List SyU)(v:Int):T:=if v<256 then vt v else aa5 S v
def aau(S:List SyU)(v:Int):List Int:=((S[(v-256).toNat]?).map Prod.snd).getD []
def ab6(S:List SyU)(R:Int->Int)(θ:Int->T):Prop:=∀v,R v≠v->(ownU S v).sub θ=(ownU S (R v)).sub θ
def acH(S:List SyU)(θ:Int->T)(p:Int×Int):Prop:=(ownU S p.1).sub θ=(ownU S p.2).sub θ
inductive Eqv (R:Int->Int) (stk:List (Int×Int)):Int->Int->Prop
 |root {x y:Int}:R x=R y->Eqv R stk x y
 |pair {x y:Int}:(x,y)∈stk->Eqv R stk x y
 |symm {x y:Int}:Eqv R stk x y->Eqv R stk y x
 |trans {x y z:Int}:Eqv R stk x y->Eqv R stk y z->Eqv R stk x z
theorem Eqv.mono{R R':Int->Int}{stk stk':List (Int×Int)}(h1:∀x y,R x=R y->R' x=R' y)(h2:∀p∈stk,Eqv R' stk' p.1 p.2){x y:Int}(h:Eqv R stk x y):Eqv R' stk' x y:=by
 induction h with
 |root h=>exact .root (h1 _ _ h)
 |pair h=>exact h2 _ h
 |symm _ ih=>exact ih.symm
 |trans _ _ ih1 ih2=>exact ih1.trans ih2
theorem Eqv.done{R:Int->Int}{x y:Int}(h:Eqv R [] x y):R x=R y:=by
 induction h with
 |root h=>exact h
 |pair h=>simp at h
 |symm _ ih=>exact ih.symm
 |trans _ _ ih1 ih2=>exact ih1.trans ih2
theorem amT{S:List SyU}(u:Int){v:Int}(hv:v<256+S.length):ownU (aac S u).1 v=ownU S v:=by
 unfold ownU;split
 ·rfl
 ·exact aaz u (by omega)
theorem abC{S:List SyU}{v:Int}(h:256<=v):ownU S v=aa5 S v:=by unfold ownU;rw[if_neg (by omega)]
theorem aeb{S:List SyU}{v:Int}(h:256<=v)(hv:v<256+S.length):∃x,S[(v-256).toNat]? =some x/\aa5 S v=x.1/\aau S v=x.2:=by
 have hl:(v-256).toNat<S.length:=by omega
 refine⟨S[(v-256).toNat],ai hl,?_,?_⟩
 ·unfold aa5;rw[ai hl];rfl
 ·unfold aau;rw[ai hl];rfl
theorem acI{S:List SyU}(u:Int){v:Int}(h:256<=v)(hv:v<256+S.length)(hm:(aau S v).length=(aa5 S v).args.length):aau (aac S u).1 v=aau S v:=by
 obtain⟨x,hx,h1,h2⟩:=aeb h hv;rw[h1,h2] at hm;unfold aac;split
 ·rfl
 ·split
  ·rfl
  ·rename_i t as_ hs;split
   ·rename_i hlt;obtain⟨l,hl,_⟩:=aa8 t.args S;have hvl:(v-256).toNat<S.length:=by omega
    unfold aau;rw[hl];by_cases e:(u-256).toNat=(v-256).toNat
    ·rw[e,hx] at hs;cases hs;simp only at hm hlt;omega
    ·rw[List.getElem?_set_ne e,List.getElem?_append_left hvl]
   ·rfl
theorem acJ{S:List SyU}{v:Int}(h:256<=v)(hv:v<256+S.length):aau (aac S v).1 v=(aac S v).2:=by
 have hvl:(v-256).toNat<S.length:=by omega
 have hx:=ai hvl;unfold aac;rw[if_neg (by omega),hx];simp only;split
 ·obtain⟨l,hl,_⟩:=aa8 S[(v-256).toNat].1.args S;unfold aau;rw[List.getElem?_set_self (by rw[hl,aK];omega)];rfl
 ·unfold aau;rw[hx];rfl
def avH(S:List SyU):Prop:=∀(v z:Int) (t:T),256<=v->v<256+S.length->∀k:Nat,(aau S v)[k]? =some z->(aa5 S v).args[k]? =some t->ownU S z=t
theorem al0{S:List SyU}{t:T}(hg:bad (T.subs 1 t)=false):ownU (abU S t) (ahn S t)=t:=by
 unfold ownU ahn abU;by_cases h:t.head<0
 ·rw[if_pos h,if_pos h];have h1:=aaI hg;simp only[okB,if_pos h,Bool.and_eq_true,decide_eq_true_iff] at h1;rw[if_pos (by omega)];have h2:=aaZ hg h;rw[←T.eta t,h2];unfold vt;rw[T.head_node]
  congr 1
  omega
 ·rw[if_neg h,if_neg h,if_neg (by omega)];unfold aa5;rw[show(256+(S.length:Int)-256).toNat=S.length from by omega,List.getElem?_append_right (af _)];simp
theorem al1{S l:List SyU}{v:Int}(hv:v<256+S.length):ownU (S++l) v=ownU S v:=by
 unfold ownU;split
 ·rfl
 ·unfold aa5;rw[List.getElem?_append_left (by omega)]
theorem ar1(S:List SyU)(t:T):∃l,abU S t=S++l:=by
 unfold abU;split
 ·exact⟨[],by simp⟩
 ·exact⟨_,rfl⟩
theorem aik:∀(ts:List T) (S:List SyU),(∀t∈ts,bad (T.subs 1 t)=false)->∀(k:Nat) (z:Int) (t:T),(aag S ts).2[k]? =some z->ts[k]? =some t->ownU (aag S ts).1 z=t
 |[],S,_,k,z,t,hz,ht=>by simp at ht
 |s::ts,S,hg,0,z,t,hz,ht=>by
  simp[aag] at hz ht;subst hz ht;obtain⟨l,hl,_⟩:=aa8 ts (abU S s);simp only[aag];rw[hl,al1 (adM (hg s (by simp))).2.1];exact al0 (hg s (by simp))
 |s::ts,S,hg,k+1,z,t,hz,ht=>by
  simp only[aag] at hz ⊢;exact aik ts (abU S s) (fun t ht=>hg t (by simp[ht])) k z t (by simpa using hz) (by simpa using ht)
theorem aug{S:List SyU}{i:Nat}{t:T}{as_ is_:List Int}(h:S[i]? =some (t,as_))(z:Int):ownU (S.set i (t,is_)) z=ownU S z:=by
 unfold ownU;split
 ·rfl
 ·unfold aa5;by_cases e:i=(z-256).toNat
  ·subst e;rw[List.getElem?_set_self (ah.1 h).1,h];rfl
  ·rw[List.getElem?_set_ne e]
theorem ail:∀(ts:List T) (S:List SyU),∃l,(aag S ts).1=S++l/\∀x∈l,x.2=[]
 |[],S=>⟨[],by simp[aag],by simp⟩
 |t::ts,S=>by
  obtain⟨l,h,hl⟩:=ail ts (abU S t);simp only[aag,h];unfold abU;split
  ·exact⟨l,rfl,hl⟩
  ·refine⟨(t,[])::l,by simp,fun x hx=> ?_⟩
   rcases List.mem_cons.1 hx with rfl|hx
   ·rfl
   ·exact hl x hx
theorem avH.args{S:List SyU}{R:Int->Int}(hok:GOk S R)(h:avH S)(u:Int):avH (aac S u).1:=by
 unfold aac;split
 ·exact h
 ·split
  ·exact h
  ·rename_i t as_ hs;have hm:=ak hs;split
   ·intro v z x hv0 hv1 k hz hx;obtain⟨l,hl,_⟩:=aa8 t.args S;have hil:=(ah.1 hs).1;have hs1:(aag S t.args).1[(u-256).toNat]? =some (t,as_):=by rw[hl,List.getElem?_append_left hil];exact hs
    rw[aug hs1];rw[List.length_set] at hv1;by_cases e:(u-256).toNat=(v-256).toNat
    ·have e1:aau ((aag S t.args).1.set (u-256).toNat (t,(aag S t.args).2)) v=(aag S t.args).2:=by
      unfold aau;rw[←e,List.getElem?_set_self (by rw[hl,aK];omega)];rfl
     have e2:aa5 ((aag S t.args).1.set (u-256).toNat (t,(aag S t.args).2)) v=t:=by
      unfold aa5;rw[←e,List.getElem?_set_self (by rw[hl,aK];omega)];rfl
     rw[e1] at hz;rw[e2] at hx;exact aik t.args S (fun s hs'=>ajl (hok.good _ hm) hs') k z x hz hx
    ·have e1:aau ((aag S t.args).1.set (u-256).toNat (t,(aag S t.args).2)) v=aau (aag S t.args).1 v:=by
      unfold aau;rw[List.getElem?_set_ne e]
     have e2:aa5 ((aag S t.args).1.set (u-256).toNat (t,(aag S t.args).2)) v=aa5 (aag S t.args).1 v:=by
      unfold aa5;rw[List.getElem?_set_ne e]
     rw[e1] at hz;rw[e2] at hx;by_cases hvS:v<256+S.length
     ·have e3:aau (aag S t.args).1 v=aau S v:=by unfold aau;rw[hl,List.getElem?_append_left (by omega)]
      have e4:aa5 (aag S t.args).1 v=aa5 S v:=by unfold aa5;rw[hl,List.getElem?_append_left (by omega)]
      rw[e3] at hz;rw[e4] at hx;obtain⟨y,hy,h1,h2⟩:=aeb hv0 hvS;have hzv:=hok.argv y (ak hy) z (by rw[←h2];exact ak hz);rw[hl,al1 hzv.2];exact h v z x hv0 hvS k hz hx
     ·obtain⟨y,hy,h1,h2⟩:=aeb hv0 hv1;obtain⟨l',hl',hnil⟩:=ail t.args S;rw[hl',List.getElem?_append_right (by omega)] at hy;rw[h2,hnil y (ak hy)] at hz;simp at hz
   ·exact h
structure aek (E:(Int->T)->Prop) (s:St) (m:Nat):Prop where
 ok:GOk s.syms s.R
 idem:∀v,s.R (s.R v)=s.R v
 argo:avH s.syms
 symr:∀v,256<=v->256<=s.R v
 vmin:∀v,v<256->s.R v<256->s.R v<=v
 gen:∀θ,E θ->ab6 s.syms s.R θ/\∀p∈s.stk,acH s.syms θ p
 cmp:∀θ,ab6 s.syms s.R θ->(∀p∈s.stk,acH s.syms θ p)->E θ
 cong:∀v,256<=v->s.R v≠v->abF (aa5 s.syms v) (aa5 s.syms (s.R v))=true/\(aau s.syms v).length=(aa5 s.syms v).args.length/\(aau s.syms (s.R v)).length=(aa5 s.syms (s.R v)).args.length/\∀(k:Nat) (x y:Int),(aau s.syms v)[k]? =some x->(aau s.syms (s.R v))[k]? =some y->Eqv s.R s.stk x y
 vars:s.vars.Nodup/\∀z,z∈s.vars↔(z<256/\s.R z≠z)
 bd:∃l:List Int,l.Nodup/\l.length=s.n/\∀z,z∈l↔s.R z≠z
 stkv:∀p∈s.stk,(0<=p.1/\p.1<256+s.syms.length)/\(0<=p.2/\p.2<256+s.syms.length)
 sl:s.stk.length<=1+8*s.n
 meas:m=1001*(5256-s.n)+s.stk.length
section
variable {E:(Int->T)->Prop} {s:St} {m:Nat}
theorem aek.n_le(h:aek E s m):s.n<=5256:=by
 obtain⟨l,h1,h2,h3⟩:=h.bd;have hl:=h.ok.len;have:=afQ (256+s.syms.length) l h1 (fun z hz=>by have:=(h.ok.rv z ((h3 z).1 hz)).1;omega);omega
theorem aek.vars_le(h:aek E s m):s.vars.length<=256:=afQ 256 s.vars h.vars.1 (fun z hz=>by
 have h1:=(h.vars.2 z).1 hz;have:=(h.ok.rv z h1.2).1;omega)
theorem aek.fit(h:aek E s m):Fit s:=by
 have hl:=h.ok.len;have hn:=h.n_le;have hv:=h.vars_le;have hs:=h.sl;exact⟨by omega,by omega,by omega,by omega,h.ok.sz,h.ok.made,fun p hp=>by have:=h.stkv p hp;omega,fun p hp=>⟨h.ok.root (h.stkv p hp).1.1 (h.stkv p hp).1.2,h.ok.root (h.stkv p hp).2.1 (h.stkv p hp).2.2⟩⟩
theorem aek.args(h:aek E s m)(u:Int):aek E { s with syms:=(aac s.syms u).1} m:=by
 obtain⟨hok,hle,_⟩:=h.ok.args u;have hown:∀v:Int,v<256+s.syms.length->ownU (aac s.syms u).1 v=ownU s.syms v:=fun v hv=>amT u hv
 have hlk:∀θ,ab6 (aac s.syms u).1 s.R θ↔ab6 s.syms s.R θ:=fun θ=>by
  constructor
  ·intro hh v hv;have h1:=h.ok.rv v hv;have:=hh v hv;rw[hown v h1.1.2,hown _ h1.2.2] at this;exact this
  ·intro hh v hv;have h1:=h.ok.rv v hv;rw[hown v h1.1.2,hown _ h1.2.2];exact hh v hv
 have hpr:∀θ p,p∈s.stk->(acH (aac s.syms u).1 θ p↔acH s.syms θ p):=fun θ p hp=>by
  have:=h.stkv p hp;unfold acH;rw[hown _ this.1.2,hown _ this.2.2]
 refine⟨hok,h.idem,h.argo.args h.ok u,h.symr,h.vmin,fun θ hθ=> ?_,fun θ h1 h2=> ?_,fun v hv0 hv=> ?_,h.vars,h.bd,fun p hp=> ?_,h.sl,h.meas⟩
 ·exact⟨(hlk θ).2 (h.gen θ hθ).1,fun p hp=>(hpr θ p hp).2 ((h.gen θ hθ).2 p hp)⟩
 ·exact h.cmp θ ((hlk θ).1 h1) (fun p hp=>(hpr θ p hp).1 (h2 p hp))
 ·obtain⟨c1,c2,c3,c4⟩:=h.cong v hv0 hv;have h1:=h.ok.rv v hv;have hr:=h.symr v hv0;simp only;rw[aaz u (by omega),aaz u (by omega),acI u hv0 h1.1.2 c2,acI u hr h1.2.2 c3];exact⟨c1,c2,c3,c4⟩
 ·have:=h.stkv p hp;simp only;omega
end
theorem agT{S:List SyU}{R:Int->Int}{x y:Int}(hid:∀v,R (R v)=R v)(hx:R x=x)(hy:R y=y)(hne:x≠y)(θ:Int->T):ab6 S (join R x y) θ↔ab6 S R θ/\(ownU S x).sub θ=(ownU S y).sub θ:=by
 have hjx:join R x y x=y:=by unfold join;rw[if_pos hx,hy]
 constructor
 ·intro h
  have h1:(ownU S x).sub θ=(ownU S y).sub θ:=by
   have:=h x (by rw[hjx];exact fun e=>hne e.symm);rw[hjx] at this;exact this
  refine⟨fun v hv=> ?_,h1⟩;by_cases e:R v=x
  ·have hj:join R x y v=y:=by unfold join;rw[if_pos e,hy]
   have hvy:y≠v:=fun e2=>by subst e2;exact hv hy
   have:=h v (by rw[hj];exact hvy);rw[hj] at this;rw[e,this,h1]
  ·have hj:join R x y v=R v:=by unfold join;rw[if_neg e]
   have:=h v (by rw[hj];exact hv);rw[hj] at this;exact this
 ·rintro⟨h,h1⟩ v hv;by_cases e:R v=x
  ·have hj:join R x y v=y:=by unfold join;rw[if_pos e,hy]
   rw[hj];by_cases e2:R v=v
   ·rw[←h1,←e,e2]
   ·rw[h v e2,e,h1]
  ·have hj:join R x y v=R v:=by unfold join;rw[if_neg e]
   rw[hj] at hv ⊢;exact h v hv
theorem an5{R:Int->Int}{x y u v:Int}(h:R u=R v):join R x y u=join R x y v:=by unfold join;rw[h]
theorem aek.link{E:(Int->T)->Prop}{s:St}{m:Nat}(h:aek E s m){p q x y:Int}{rest new:List (Int×Int)}{vars':List Int}(hstk:s.stk=rest++[(p,q)])(hx:s.R x=x)(hy:s.R y=y)(hne:x≠y)(hxv:0<=x/\x<256+s.syms.length)(hyv:0<=y/\y<256+s.syms.length)
 (hpq:(s.R p=x/\s.R q=y)\/(s.R p=y/\s.R q=x)) (hsym:256<=x->256<=y) (hmin:x<256->y<256->y<=x) (hvars:vars'=if x<256 then s.vars++[x] else s.vars)
 (hnl:new.length<=8) (hnv:∀r∈new,(0<=r.1/\r.1<256+s.syms.length)/\(0<=r.2/\r.2<256+s.syms.length)) (hng:∀θ,(ownU s.syms x).sub θ=(ownU s.syms y).sub θ->∀r∈new,acH s.syms θ r)
 (hc:256<=x->abF (aa5 s.syms x) (aa5 s.syms y)=true/\(aau s.syms x).length=(aa5 s.syms x).args.length/\(aau s.syms y).length=(aa5 s.syms y).args.length/\∀(k:Nat) (u v:Int),(aau s.syms x)[k]? =some u->(aau s.syms y)[k]? =some v->(u,v)∈new):
 ∃m',m'<m/\aek E { s with n:=s.n+1,R:=join s.R x y,vars:=vars',stk:=rest++new} m':=by
 have hjx:join s.R x y x=y:=by unfold join;rw[if_pos hx,hy]
 have hjy:join s.R x y y=y:=by unfold join;rw[if_neg (by rw[hy];exact fun e=>hne e.symm),hy]
 have hjR:∀v,join s.R x y v=if s.R v=x then y else s.R v:=fun v=>by unfold join;rw[hy]
 have hmem:(p,q)∈s.stk:=by rw[hstk];simp
 have hrest:∀r∈rest,r∈s.stk:=fun r hr=>by rw[hstk];simp[hr]
 have hjpq:join s.R x y p=join s.R x y q:=by
  rcases hpq with⟨h1,h2⟩|⟨h1,h2⟩
  ·rw[hjR,hjR,if_pos h1,h2,if_neg (fun e=>hne e.symm)]
  ·rw[hjR,hjR,h1,if_neg (fun e=>hne e.symm),if_pos h2]
 have hidem:∀v,join s.R x y (join s.R x y v)=join s.R x y v:=fun v=>by
  rw[hjR v];split
  ·rw[hjy]
  ·rename_i e;rw[hjR,h.idem,if_neg e]
 have hmono:∀{u v:Int},Eqv s.R s.stk u v->Eqv (join s.R x y) (rest++new) u v:=fun{u v} hh=>hh.mono (fun a b hab=>an5 hab) (fun r hr=>by
  rw[hstk] at hr
  rcases aG.1 hr with hr|hr
  ·exact .pair (by simp[hr])
  ·simp at hr;subst hr;exact .root hjpq)
 have hsymx:∀v,256<=v->s.R v=x->256<=x:=fun v hv e=>by rw[←e];exact h.symr v hv
 have hbdn:∃l:List Int,l.Nodup/\l.length=s.n+1/\∀z,z∈l↔join s.R x y z≠z:=by
  obtain⟨l,l1,l2,l3⟩:=h.bd;refine⟨x::l,List.nodup_cons.2 ⟨fun e=>(l3 x).1 e hx,l1⟩,by simp[l2],fun z=> ?_⟩;rw[List.mem_cons,l3,hjR];constructor
  ·rintro(rfl|hz)
   ·rw[if_pos hx];exact fun e=>hne e.symm
   ·split
    ·intro e;subst e;exact hz hy
    ·exact hz
  ·intro hz;split at hz
   ·rename_i e;by_cases e2:s.R z=z
    ·left;rw[←e2];exact e
    ·exact .inr e2
   ·exact .inr hz
 have hokn:GOk s.syms (join s.R x y):=⟨h.ok.pot,h.ok.sz,h.ok.head,h.ok.good,h.ok.made,h.ok.argv,fun v hv=>by
  rw[hjR] at hv ⊢;by_cases e:s.R v=x
  ·rw[if_pos e];by_cases e2:s.R v=v
   ·rw[←e2,e];exact⟨hxv,hyv⟩
   ·exact⟨(h.ok.rv v e2).1,hyv⟩
  ·rw[if_neg e] at hv ⊢;exact h.ok.rv v hv⟩
 have hn1:s.n+1<=5256:=by
  obtain⟨l,l1,l2,l3⟩:=hbdn;have hl:=h.ok.len;have:=afQ (256+s.syms.length) l l1 (fun z hz=>by have:=(hokn.rv z ((l3 z).1 hz)).1;omega);omega
 have hsl:s.stk.length=rest.length+1:=by rw[hstk];simp
 have hsl0:=h.sl;refine⟨1001*(5256-(s.n+1))+(rest++new).length,?_,⟨hokn,hidem,h.argo,fun v hv=> ?_,fun v hv hv2=> ?_,fun θ hθ=> ?_,fun θ h1 h2=> ?_,fun v hv0 hv=> ?_,?_,hbdn,fun r hr=> ?_,?_,rfl⟩⟩
 ·rw[h.meas,aK,hsl];omega
 ·simp only;rw[hjR];split
  ·rename_i e;exact hsym (hsymx v hv e)
  ·exact h.symr v hv
 ·simp only at hv2 ⊢;rw[hjR] at hv2 ⊢;split at hv2
  ·rename_i e;rw[if_pos e];by_cases hx256:x<256
   ·have h1:=hmin hx256 hv2;have h2:=h.vmin v hv (by rw[e];exact hx256);omega
   ·have:=hsym (by omega);omega
  ·rename_i e;rw[if_neg e];exact h.vmin v hv hv2
 ·obtain⟨g1,g2⟩:=h.gen θ hθ;have gpq:=g2 _ hmem;unfold acH at gpq
  have hroot:∀v,(ownU s.syms v).sub θ=(ownU s.syms (s.R v)).sub θ:=fun v=>by
   by_cases e:s.R v=v
   ·rw[e]
   ·exact g1 v e
  have hxy:(ownU s.syms x).sub θ=(ownU s.syms y).sub θ:=by
   rw[hroot p,hroot q] at gpq
   rcases hpq with⟨h1,h2⟩|⟨h1,h2⟩
   ·rw[h1,h2] at gpq;exact gpq
   ·rw[h1,h2] at gpq;exact gpq.symm
  refine⟨(agT h.idem hx hy hne θ).2 ⟨g1,hxy⟩,fun r hr=> ?_⟩
  rcases aG.1 hr with hr|hr
  ·exact g2 r (hrest r hr)
  ·exact hng θ hxy r hr
 ·obtain⟨g1,hxy⟩:=(agT h.idem hx hy hne θ).1 h1
  have hroot:∀v,(ownU s.syms v).sub θ=(ownU s.syms (s.R v)).sub θ:=fun v=>by
   by_cases e:s.R v=v
   ·rw[e]
   ·exact g1 v e
  refine h.cmp θ g1 (fun r hr=> ?_);rw[hstk] at hr
  rcases aG.1 hr with hr|hr
  ·exact h2 r (by simp[hr])
  ·simp at hr;subst hr;unfold acH;rw[hroot p,hroot q]
   rcases hpq with⟨h1,h2⟩|⟨h1,h2⟩
   ·rw[h1,h2];exact hxy
   ·rw[h1,h2];exact hxy.symm
 ·simp only at hv ⊢;rw[hjR] at hv ⊢;by_cases e:s.R v=x
  ·rw[if_pos e] at hv ⊢;have hx256:=hsymx v hv0 e;obtain⟨d1,d2,d3,d4⟩:=hc hx256;by_cases e2:s.R v=v
   ·rw[←e2,e];exact⟨d1,d2,d3,fun k u w hu hw=> .pair (by simp[d4 k u w hu hw])⟩
   ·obtain⟨c1,c2,c3,c4⟩:=h.cong v hv0 e2;rw[e] at c1 c3 c4;refine⟨?_,c2,d3,fun k u w hu hw=> ?_⟩
    ·unfold abF at c1 d1 ⊢;simp only[Bool.and_eq_true,decide_eq_true_iff] at c1 d1 ⊢;exact⟨c1.1.trans d1.1,c1.2.trans d1.2⟩
    ·have hkl:k<(aau s.syms x).length:=by
      have h1:=(ah.1 hu).1;unfold abF at c1;simp only[Bool.and_eq_true,decide_eq_true_iff] at c1;rw[c2,c1.2,←c3] at h1;exact h1
     exact(hmono (c4 k u _ hu (ai hkl))).trans (.pair (by simp[d4 k _ w (ai hkl) hw]))
  ·rw[if_neg e] at hv ⊢;obtain⟨c1,c2,c3,c4⟩:=h.cong v hv0 hv;exact⟨c1,c2,c3,fun k u w hu hw=>hmono (c4 k u w hu hw)⟩
 ·simp only;rw[hvars];split
  ·rename_i hx256;refine⟨?_,fun z=> ?_⟩
   ·rw[List.nodup_append]
    exact⟨h.vars.1,by simp,fun a ha b hb=>by
     simp at hb;subst hb;rintro rfl;exact((h.vars.2 a).1 ha).2 hx⟩
   ·rw[aG,h.vars.2,hjR];constructor
    ·rintro(⟨h1,h2⟩|hz)
     ·refine⟨h1,?_⟩;split
      ·intro e;subst e;exact h2 hy
      ·exact h2
     ·simp at hz;subst hz;exact⟨hx256,by rw[if_pos hx];exact fun e=>hne e.symm⟩
    ·rintro⟨h1,h2⟩;split at h2
     ·rename_i e;by_cases e2:s.R z=z
      ·right;rw[←e,e2];simp
      ·exact .inl ⟨h1,e2⟩
     ·exact .inl ⟨h1,h2⟩
  ·rename_i hx256;refine⟨h.vars.1,fun z=> ?_⟩;rw[h.vars.2,hjR];constructor
   ·rintro⟨h1,h2⟩;refine⟨h1,?_⟩;split
    ·intro e;subst e;exact h2 hy
    ·exact h2
   ·rintro⟨h1,h2⟩;refine⟨h1,?_⟩;split at h2
    ·rename_i e;intro e2;rw[←e,e2] at hx256;omega
    ·exact h2
 ·rcases aG.1 hr with hr|hr
  ·exact h.stkv r (hrest r hr)
  ·exact hnv r hr
 ·simp only[aK];omega
theorem aek.pop{E:(Int->T)->Prop}{s:St}{m:Nat}(h:aek E s m){p q:Int}{rest:List (Int×Int)}(hstk:s.stk=rest++[(p,q)])(he:s.R p=s.R q):∃m',m'<m/\aek E { s with stk:=rest} m':=by
 have hsl:s.stk.length=rest.length+1:=by rw[hstk];simp
 have hsl0:=h.sl;have hrest:∀r∈rest,r∈s.stk:=fun r hr=>by rw[hstk];simp[hr]
 refine⟨1001*(5256-s.n)+rest.length,by rw[h.meas,hsl];omega,⟨h.ok,h.idem,h.argo,h.symr,h.vmin,fun θ hθ=>⟨(h.gen θ hθ).1,fun r hr=>(h.gen θ hθ).2 r (hrest r hr)⟩,fun θ h1 h2=> ?_,fun v hv0 hv=> ?_,h.vars,h.bd,fun r hr=>h.stkv r (hrest r hr),by simp only;omega,rfl⟩⟩
 ·refine h.cmp θ h1 (fun r hr=> ?_);rw[hstk] at hr
  rcases aG.1 hr with hr|hr
  ·exact h2 r hr
  ·simp at hr;subst hr
   have hroot:∀v,(ownU s.syms v).sub θ=(ownU s.syms (s.R v)).sub θ:=fun v=>by
    by_cases e:s.R v=v
    ·rw[e]
    ·exact h1 v e
   unfold acH;rw[hroot p,hroot q,he]
 ·obtain⟨c1,c2,c3,c4⟩:=h.cong v hv0 hv;refine⟨c1,c2,c3,fun k x y hx hy=>(c4 k x y hx hy).mono (fun _ _ e=>e) (fun r hr=> ?_)⟩;rw[hstk] at hr
  rcases aG.1 hr with hr|hr
  ·exact .pair hr
  ·simp at hr;subst hr;exact .root he
theorem abr{S:List SyU}{R:Int->Int}(h:GOk S R){v:Int}(h0:256<=v)(h1:v<256+S.length):(aa5 S v).args.length<=8/\¬(aa5 S v).head<0/\bad (T.subs 1 (aa5 S v))=false:=by
 obtain⟨x,hx,e1,_⟩:=aeb h0 h1;have hm:=ak hx;rw[e1];have g1:=h.head x hm;have g2:=h.good x hm;have g3:=aaI g2;simp only[okB,if_neg g1,Bool.and_eq_true,decide_eq_true_iff] at g3;exact⟨by omega,g1,g2⟩
theorem aey{t u:T}{θ:Int->T}(ht:¬t.head<0)(hu:¬u.head<0)(h:t.sub θ=u.sub θ):t.head=u.head/\t.args.length=u.args.length/\∀(k:Nat) (x y:T),t.args[k]? =some x->u.args[k]? =some y->x.sub θ=y.sub θ:=by
 rw[T.sub_pos ht,T.sub_pos hu] at h;have h1:t.head=u.head:=by have:=congrArg T.head h;rw[T.head_node,T.head_node] at this;exact this
 have h2:t.args.map (T.sub θ)=u.args.map (T.sub θ):=by have:=congrArg T.args h;rw[T.args_node,T.args_node] at this;exact this
 refine⟨h1,by have:=congrArg List.length h2;simpa using this,fun k x y hx hy=> ?_⟩;have:=congrArg (fun l=>l[k]?) h2;simp only[List.getElem?_map,hx,hy,Option.map_some,aJ] at this;exact this
theorem aek.handing(E:(Int->T)->Prop):alZ (aek E):=by
 refine⟨fun s m h=>h.fit,fun s m p q rest s' h hstk hst=> ?_⟩;have hmem:(p,q)∈s.stk:=by rw[hstk];simp
 obtain⟨⟨hp0,hp1⟩,⟨hq0,hq1⟩⟩:=h.stkv _ hmem;simp only at hp0 hp1 hq0 hq1;have hap:=h.ok.root hp0 hp1;have hbq:=h.ok.root hq0 hq1;have hia:=h.idem p;have hib:=h.idem q;unfold afH at hst;simp only at hst;split at hst
 ·rename_i e;cases hst;exact h.pop hstk e
 rename_i hab;split at hst
 ·rename_i hv;cases hst
  rcases Int.le_total (s.R p) (s.R q) with hle|hle
  ·rw[Int.max_eq_right hle,Int.min_eq_left hle];exact(h.link (new:=[]) (vars':=s.vars++[s.R q]) hstk hib hia (fun e=>hab e.symm) hbq hap (.inr ⟨rfl,rfl⟩) (fun e=>by omega) (fun _ _=>hle) (by rw[if_pos hv.2]) (by simp) (by simp) (by simp) (fun e=>by omega)).imp fun m' hm=>by simpa using hm
  ·rw[Int.max_eq_left hle,Int.min_eq_right hle];exact(h.link (new:=[]) (vars':=s.vars++[s.R p]) hstk hia hib hab hap hbq (.inl ⟨rfl,rfl⟩) (fun e=>by omega) (fun _ _=>hle) (by rw[if_pos hv.1]) (by simp) (by simp) (by simp) (fun e=>by omega)).imp fun m' hm=>by simpa using hm
 rename_i hvv;split at hst
 ·rename_i hv;cases hst;exact(h.link (new:=[]) (vars':=s.vars++[s.R p]) hstk hia hib hab hap hbq (.inl ⟨rfl,rfl⟩) (fun e=>by omega) (fun h1 h2=>absurd ⟨h1,h2⟩ hvv) (by rw[if_pos hv]) (by simp) (by simp) (by simp) (fun e=>by omega)).imp fun m' hm=>by simpa using hm
 rename_i hva;split at hst
 ·rename_i hv;cases hst;exact(h.link (new:=[]) (vars':=s.vars++[s.R q]) hstk hib hia (fun e=>hab e.symm) hbq hap (.inr ⟨rfl,rfl⟩) (fun e=>by omega) (fun h1 h2=>absurd ⟨h2,h1⟩ hvv) (by rw[if_pos hv]) (by simp) (by simp) (by simp) (fun e=>by omega)).imp fun m' hm=>by simpa using hm
 rename_i hvb;split at hst
 ·cases hst
 rename_i hal;cases hst;have hal':abF (aa5 s.syms (s.R p)) (aa5 s.syms (s.R q))=true:=by simpa using hal
 generalize ha:s.R p=a at*;generalize hb:s.R q=b at*;have h1:=h.args a;obtain⟨ok1,le1,val1⟩:=h.ok.args a;have h2:=h1.args b;obtain⟨ok2,le2,val2⟩:=ok1.args b;simp only at h2;have ea:aa5 (aac (aac s.syms a).1 b).1 a=aa5 s.syms a:=by rw[aaz b (by omega),aaz a (by omega)]
 have eb:aa5 (aac (aac s.syms a).1 b).1 b=aa5 s.syms b:=by rw[aaz b (by omega),aaz a (by omega)]
 have hla:(aac s.syms a).2.length=(aa5 s.syms a).args.length:=abi hva (by omega) h.ok.made;have hlb:(aac (aac s.syms a).1 b).2.length=(aa5 s.syms b).args.length:=by rw[abi hvb (by omega) ok1.made,aaz a (by omega)]
 have na1:aau (aac s.syms a).1 a=(aac s.syms a).2:=acJ (by omega) (by omega)
 have na2:aau (aac (aac s.syms a).1 b).1 a=(aac s.syms a).2:=by
  rw[acI b (by omega) (by omega) (by rw[na1,aaz a (by omega),hla]),na1]
 have nb2:aau (aac (aac s.syms a).1 b).1 b=(aac (aac s.syms a).1 b).2:=acJ (by omega) (by omega);obtain⟨ara,hda,gda⟩:=abr h.ok (v:=a) (by omega) hap.2;obtain⟨arb,hdb,gdb⟩:=abr h.ok (v:=b) (by omega) hbq.2
 have halk:(aa5 s.syms a).head=(aa5 s.syms b).head/\(aa5 s.syms a).args.length=(aa5 s.syms b).args.length:=by
  unfold abF at hal';simpa using hal'
 refine h2.link (x:=a) (y:=b) (new:=((aac s.syms a).2.zip (aac (aac s.syms a).1 b).2).reverse) (vars':=s.vars) hstk hia hib hab ⟨hap.1,by simp only;omega⟩ ⟨hbq.1,by simp only;omega⟩ (.inl ⟨ha,hb⟩) (fun _=>by omega) (fun e=>by omega) (by rw[if_neg hva]) ?_ ?_ ?_ ?_
 ·rw[List.length_reverse,List.length_zip];omega
 ·intro r hr;rw[List.mem_reverse] at hr;have hr1:=List.of_mem_zip (show(r.1,r.2)∈_ from hr);have:=val1 _ hr1.1;have:=val2 _ hr1.2;simp only;omega
 ·intro θ hθ r hr;rw[List.mem_reverse] at hr;simp only at hθ ⊢;rw[abC (by omega),abC (by omega),ea,eb] at hθ;obtain⟨_,_,hch⟩:=aey hda hdb hθ;obtain⟨k,hk⟩:=au hr;rw[show r=(r.1,r.2) from rfl,List.getElem?_zip_eq_some] at hk;have hka:=(ah.1 hk.1).1;have hkb:=(ah.1 hk.2).1;have oa:=h2.argo a r.1 ((aa5 s.syms a).args[k]'(by omega)) (by omega) (by simp only;omega) k (by rw[na2];exact hk.1) (by simp only;rw[ea];exact ai (by omega));have ob:=h2.argo b r.2 ((aa5 s.syms b).args[k]'(by omega)) (by omega) (by simp only;omega) k (by rw[nb2];exact hk.2) (by simp only;rw[eb];exact ai (by omega));unfold acH;simp only at oa ob;rw[oa,ob];exact hch k _ _ (ai (by omega)) (ai (by omega))
 ·intro _;simp only;rw[na2,nb2,ea,eb];refine⟨hal',by omega,by omega,fun k u v hu hv=> ?_⟩;rw[List.mem_reverse];exact ak (i:=k) (by rw[List.getElem?_zip_eq_some];exact⟨hu,hv⟩)
theorem aek.none{E:(Int->T)->Prop}{s:St}{m:Nat}(h:aek E s m){p q:Int}{rest:List (Int×Int)}(hstk:s.stk=rest++[(p,q)])(hst:afH s p q rest=none)(θ:Int->T):¬E θ:=fun hθ=>by
 have hmem:(p,q)∈s.stk:=by rw[hstk];simp
 obtain⟨⟨hp0,hp1⟩,⟨hq0,hq1⟩⟩:=h.stkv _ hmem;simp only at hp0 hp1 hq0 hq1;have hap:=h.ok.root hp0 hp1;have hbq:=h.ok.root hq0 hq1;obtain⟨g1,g2⟩:=h.gen θ hθ;have gpq:=g2 _ hmem;unfold acH at gpq
 have hroot:∀v,(ownU s.syms v).sub θ=(ownU s.syms (s.R v)).sub θ:=fun v=>by
  by_cases e:s.R v=v
  ·rw[e]
  ·exact g1 v e
 simp only at gpq;rw[hroot p,hroot q] at gpq;unfold afH at hst;simp only at hst;split at hst
 ·cases hst
 split at hst
 ·cases hst
 split at hst
 ·cases hst
 rename_i hva;split at hst
 ·cases hst
 rename_i hvb;split at hst
 ·rename_i hal;obtain⟨_,hda,_⟩:=abr h.ok (v:=s.R p) (by omega) hap.2;obtain⟨_,hdb,_⟩:=abr h.ok (v:=s.R q) (by omega) hbq.2;rw[abC (by omega),abC (by omega)] at gpq;obtain⟨e1,e2,_⟩:=aey hda hdb gpq;unfold abF at hal;rw[decide_eq_true e1,decide_eq_true e2] at hal;cases hal
 ·cases hst
def agU:List Int:=(List.range 256).map (fun n:Nat=>(n:Int))
theorem ajo{v:Int}:v∈agU↔0<=v/\v<=255:=by
 simp only[agU,List.mem_map,List.mem_range];constructor
 ·rintro⟨n,hn,rfl⟩;omega
 ·rintro⟨h0,h1⟩;exact⟨v.toNat,by omega,by omega⟩
theorem al2:agU.Pairwise (· < ·):=by
 unfold agU;rw[List.pairwise_map];exact List.pairwise_lt_range.imp (fun h=>by omega)
theorem ajp{v:Int}(h0:0<=v)(h1:v<=255):(vt v).check=0:=by
 have hlt:(-1-v)<0:=by omega
 have hok:okB (-1-v) 0=true:=by unfold okB;rw[if_pos hlt];simp;omega
 have hb:bad (T.subs 1 (vt v))=false:=by
  show bad (T.subs 1 (.node (-1-v) []))=false;rw[af8];show(!okB (-1-v) 0||bad [])=false;rw[hok];rfl
 unfold T.check;rw[hb];simp[vt,T.size,T.sizes,T.depth,T.depths]
def ae5:Sb->Int
 |[]=>0
 |(_,t)::s=>if t.check=0 then ae5 s else t.check
theorem acf.append{ok:Nat->Prop}{w:World}:∀{s:Sb} {xs:List Value} {u:Sb} {ys:List Value},acf ok w s xs->acf ok w u ys->acf ok w (s++u) (xs++ys)
 |[],[],_,_,_,h=>h
 |(_,_)::_,_::_::_::_,_,_,⟨p1,p2,p3,p4,p5,p6⟩,h=>⟨p1,p2,p3,p4,p5,acf.append p6 h⟩
 |[],_::_,_,_,h,_=>h.elim
 |(_,_)::_,[],_,_,h,_=>h.elim
 |(_,_)::_,[_],_,_,h,_=>h.elim
 |(_,_)::_,[_,_],_,_,h,_=>h.elim
open Go.Sort
theorem aec{s:Sb}{v:Int}:bnd s v=true↔v∈s.map Prod.fst:=by
 simp[bnd,List.any_eq_true,List.mem_map]
end Go.Proofs.YtabfapijgfjflaaGreat
