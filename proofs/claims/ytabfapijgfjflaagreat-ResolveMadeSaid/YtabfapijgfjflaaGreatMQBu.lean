import Derived.Test.YtabfapijgfjflaaGreatMQBk
import Derived.Test.YtabfapijgfjflaaGreatMQBp
import Derived.Test.YtabfapijgfjflaaGreatMQBq
import Derived.Test.YtabfapijgfjflaaGreatMQBt
import Derived.Test.YtabfapijgfjflaaGreatMQBc
import Derived.Test.YtabfapijgfjflaaGreatMQBa
import Derived.Test.YtabfapijgfjflaaGreatMQBd
import Derived.Deep.RegionLaw
import Derived.Deep.AppendLies
import Derived.Test.YtabfapijgfjflaaGreatMAl
set_option linter.unusedVariables false
set_option linter.unusedSimpArgs false
set_option maxRecDepth 100000
set_option maxHeartbeats 4000000
namespace Go.Proofs.YtabfapijgfjflaaGreat
open Go.RowKit
def okF(m:Ip)(f:List Int):Prop:=f.length=256/\∀z∈f,0<=z/\z<m.size
def aee(m:Ip)(f:List Int)(C:List Lt3):Bool:=C.any fun x=>agC m f x.neg x.l x.r
def ab1(m:Ip)(C:List Lt3):Prop:=∀f,okF m f->aee m f C=true
theorem apO{ts:List T}{s:T}{h:Int}(hs:s∈ts)(hh:h∈s.hds):h∈T.hdsL ts:=by
 induction ts with
 |nil=>cases hs
 |cons t ts ih=>
  rw[T.hdsL,aG]
  rcases List.mem_cons.1 hs with rfl|hs
  ·exact .inl hh
  ·exact .inr (ih hs)
theorem ajq{m:Ip}{f f':List Int}{F:T->T}:∀(ts:List T) (i:Int),(∀s∈ts,aby m f (F s)=aby m f' s)->adF m f i (ts.map F)=adF m f' i ts
 |[],i,_=>by rw[List.map_nil,adF,adF]
 |t::ts,i,h=>by
  rw[List.map_cons,adF,adF,h t (List.mem_cons_self ..)];exact ajq ts _ fun s hs=>h s (aH _ hs)
theorem adu{t s:T}(hs:s∈t.args):s.size<t.size:=by
 obtain⟨i,hi⟩:=au hs;have h1:=T.size_lt_of_mem hi;have h2:=T.size_eq t;omega
theorem an7{m:Ip}{f f':List Int}:∀(N:Nat) (t:T),t.size<=N->(∀h∈t.hds,h<0->f.getD (-1-h).toNat 0=f'.getD (-1-h).toNat 0)->aby m f t=aby m f' t:=by
 intro N
 induction N with
 |zero=>intro t ht;have:=T.size_pos t;omega
 |succ N ih=>
  intro t ht hv;rw[adr,adr];by_cases h0:t.head<0
  ·rw[if_pos h0,if_pos h0];exact hv _ (by rw[T.hds_eq];exact List.mem_cons_self ..) h0
  ·rw[if_neg h0,if_neg h0];have:=ajq (m:=m) (f:=f) (f':=f') (F:=id) t.args 0 fun s hs=>ih s (by have:=adu hs;omega) fun h hh=>hv h (by rw[T.hds_eq];exact aH _ (apO hs hh));rw[List.map_id] at this;rw[this]
def al5(m:Ip)(f:List Int)(σ:Int->T):List Int:=(List.range 256).map fun(v:Nat)=>if 0<=aby m f (σ (v:Int))/\aby m f (σ (v:Int))<m.size then aby m f (σ (v:Int)) else 0
theorem al6{m:Ip}(hz:1<=m.size)(f:List Int)(σ:Int->T):okF m (al5 m f σ):=by
 refine⟨by simp[al5],fun z h=> ?_⟩;unfold al5 at h;obtain⟨v,_,rfl⟩:=List.mem_map.1 h;split
 ·assumption
 ·omega
theorem ar6{m:Ip}{f:List Int}{σ:Int->T}{v:Int}(h0:0<=v)(h1:v<=255)(hr:0<=aby m f (σ v)/\aby m f (σ v)<m.size):(al5 m f σ).getD v.toNat 0=aby m f (σ v):=by
 have hv:((v.toNat:Nat):Int)=v:=by omega
 unfold al5;rw[List.getD_eq_getElem?_getD,List.getElem?_map,List.getElem?_range (by omega)];show(if _ then _ else _)=_;rw[hv,if_pos hr]
def avK(m:Ip)(f:List Int)(σ:Int->T)(t:T):Prop:=∀h∈t.hds,h<0->0<=aby m f (σ (-1-h))/\aby m f (σ (-1-h))<m.size
theorem ajr{m:Ip}{f:List Int}{σ:Int->T}:∀(N:Nat) (t:T),t.size<=N->bad (T.subs 1 t)=false->avK m f σ t->aby m f (t.sub σ)=aby m (al5 m f σ) t:=by
 intro N
 induction N with
 |zero=>intro t ht;have:=T.size_pos t;omega
 |succ N ih=>
  intro t ht hg hv;by_cases h0:t.head<0
  ·obtain⟨v0,v1,_⟩:=aaT hg h0;rw[T.sub_neg h0,adr (f:=al5 m f σ),if_pos h0,ar6 v0 v1 (hv _ (by rw[T.hds_eq];exact List.mem_cons_self ..) h0)]
  ·rw[T.sub_pos h0,adr,adr,T.head_node,T.args_node,if_neg h0,if_neg h0]
   rw[ajq (m:=m) (f:=f) (f':=al5 m f σ) (F:=T.sub σ) t.args 0 fun s hs=>by
    obtain⟨k,hk⟩:=au hs;exact ih s (by have:=adu hs;omega) (aaA hg hk) fun h hh=>hv h (by rw[T.hds_eq];exact aH _ (apO hs hh))]
theorem an8{m:Ip}{f:List Int}{x:Lt3}(h:ajf x=true):agC m f x.neg x.l x.r=false:=by
 unfold ajf at h;rw[Bool.and_eq_true] at h
 have e:x.l=x.r:=by
  have:=h.2;exact(aeo _ _).1 this
 unfold agC;rw[h.1,e];simp
theorem ar7{m:Ip}{f:List Int}{x y:Lt3}(h:acF y x=true):agC m f y.neg y.l y.r=agC m f x.neg x.l x.r:=by
 obtain⟨h1,h2⟩:=aeZ.1 h;unfold agC;rw[h1]
 rcases h2 with⟨e1,e2⟩|⟨e1,e2⟩
 ·rw[e1,e2]
 ·rw[e1,e2,show decide (aby m f x.r=aby m f x.l)=decide (aby m f x.l=aby m f x.r) from by simp[eq_comm]]
theorem amZ{m:Ip}{f:List Int}:∀(C out:List Lt3),aee m f out=true\/aee m f C=true->aee m f (C.foldl aif out)=true
 |[],out,h=>by
  rcases h with h|h
  ·exact h
  ·simp[aee] at h
 |x::C,out,h=>by
  rw[List.foldl_cons];refine amZ C _ ?_;by_cases hd:ajg out x=true
  ·rw[show aif out x=out from by unfold aif;rw[if_pos hd]]
   rcases h with h|h
   ·exact .inl h
   ·unfold aee at h;rw[List.any_cons,Bool.or_eq_true] at h
    rcases h with h|h
    ·unfold ajg at hd;rw[Bool.or_eq_true] at hd
     rcases hd with hd|hd
     ·rw[an8 hd] at h;cases h
     ·obtain⟨y,hy,hs⟩:=List.any_eq_true.1 hd;exact .inl (List.any_eq_true.2 ⟨y,hy,by rw[ar7 hs];exact h⟩)
    ·exact .inr h
  ·rw[show aif out x=out++[x] from by unfold aif;rw[if_neg hd]];unfold aee at h ⊢;rw[List.any_append,Bool.or_eq_true]
   rcases h with h|h
   ·exact .inl (.inl h)
   ·rw[List.any_cons,Bool.or_eq_true] at h
    rcases h with h|h
    ·exact .inl (.inr (by simpa using h))
    ·exact .inr h
theorem ar8{m:Ip}{f:List Int}{C:List Lt3}(h:aee m f C=true):aee m f (tidy C)=true:=amZ C [] (.inr h)
theorem apP{m:Ip}{f:List Int}{σ:Int->T}{C:List Lt3}(hC:∀x∈C,(bad (T.subs 1 x.l)=false/\bad (T.subs 1 x.r)=false)/\avK m f σ x.l/\avK m f σ x.r):aee m f (C.map (Lt3.sub σ))=aee m (al5 m f σ) C:=by
 unfold aee;rw[List.any_map]
 have h:∀x∈C,(fun x=>agC m f x.neg x.l x.r) (Lt3.sub σ x)=agC m (al5 m f σ) x.neg x.l x.r:=fun x hx=>by
  obtain⟨⟨g1,g2⟩,r1,r2⟩:=hC x hx;show agC m f x.neg (x.l.sub σ) (x.r.sub σ)=_;unfold agC;rw[ajr _ _ (af _) g1 r1,ajr _ _ (af _) g2 r2]
 rw[Bool.eq_iff_iff,List.any_eq_true,List.any_eq_true];constructor
 ·rintro⟨x,hx,e⟩;exact⟨x,hx,by rw[←h x hx];exact e⟩
 ·rintro⟨x,hx,e⟩;exact⟨x,hx,by rw[←h x hx] at e;exact e⟩
theorem avL{m:Ip}(hz:1<=m.size){f:List Int}(hf:okF m f)(v:Int)(h:0<=v):0<=aby m f (vt v)/\aby m f (vt v)<m.size:=by
 rw[adr,if_pos (show(vt v).head<0 by simp[vt,T.head];omega)];by_cases hl:(-1-(vt v).head).toNat<f.length
 ·exact hf.2 _ (adG hl)
 ·rw[List.getD_eq_getElem?_getD,List.getElem?_eq_none (by omega)];exact⟨by simp,by simp;omega⟩
theorem awV(c:List Lt3)(v:Int)(h0:0<=v):∃k:Int,0<=k/\ofS (nuC c) v=vt k:=by
 have key:∀(V:List Int) (s:Nat),∃k:Int,0<=k/\ofS (V.mapIdx (fun i v=>(v,vt ((i+s:Nat):Int)))) v=vt k:=by
  intro V
  induction V with
  |nil=>intro s;exact⟨v,h0,rfl⟩
  |cons u V ih=>
   intro s;rw[List.mapIdx_cons];by_cases e:u=v
   ·subst e;exact⟨((0+s:Nat):Int),by omega,by simp[ofS]⟩
   ·obtain⟨k,h1,h2⟩:=ih (s+1);refine⟨k,h1,?_⟩;rw[show ofS ((u,vt ((0+s:Nat):Int))::V.mapIdx (fun i v=>(v,vt ((i+1+s:Nat):Int)))) v=ofS (V.mapIdx (fun i v=>(v,vt ((i+1+s:Nat):Int)))) v from by simp[ofS,e]];rw[←h2]
    congr 2
    funext i v
    rw[show i+1+s=i+(s+1) from by omega]
 exact key _ 0
theorem ar9{m:Ip}(hz:1<=m.size){C:List Lt3}(hb:abv (aad C)=false)(h:ab1 m C):ab1 m (nmL C):=by
 intro f hf;unfold nmL;rw[hb,if_neg (by decide)];rw[apP fun x hx=> ?_]
 ·exact h _ (al6 hz f _)
 ·have hl:=ach hb x.l (abk.2 ⟨x,hx,.inl rfl⟩);have hr:=ach hb x.r (abk.2 ⟨x,hx,.inr rfl⟩)
  have rg:∀t,bad (T.subs 1 t)=false->avK m f (ofS (nuC C)) t:=fun t hg h hh hn=>by
   obtain⟨k,k1,k2⟩:=awV C (-1-h) (by omega);rw[k2];exact avL hz hf k k1
  exact⟨⟨hl.2,hr.2⟩,rg _ hl.2,rg _ hr.2⟩
theorem an9{m:Ip}{C:List Lt3}(h:ab1 m C):ab1 m (tidy C):=fun f hf=>ar8 (h f hf)
mutual
def apQ(g:Sg):T->T
 | .node h ts=>if aap g h then vt 0 else .node h (avM g ts)
def avM(g:Sg):List T->List T
 |[]=>[]
 |t::ts=>apQ g t::avM g ts
end
theorem am0(g:Sg):∀ts:List T,avM g ts=ts.map (apQ g)
 |[]=>by rw[avM];rfl
 |t::ts=>by rw[avM,am0 g ts];rfl
theorem apS(g:Sg)(t:T):apQ g t=if aap g t.head then vt 0 else .node t.head (t.args.map (apQ g)):=by
 cases t;rw[apQ,am0];rfl
theorem al7{g:Sg}{σ:Int->T}:∀(N:Nat) (t:T),t.size<=N->adQ g t=false->apQ g (t.sub σ)=t.sub (fun v=>apQ g (σ v)):=by
 intro N
 induction N with
 |zero=>intro t ht;have:=T.size_pos t;omega
 |succ N ih=>
  intro t ht hp;by_cases h0:t.head<0
  ·rw[T.sub_neg h0,T.sub_neg h0]
  ·rw[abc,Bool.or_eq_false_iff] at hp;rw[T.sub_pos h0,T.sub_pos h0,apS,T.head_node,T.args_node,hp.1,if_neg (by decide),List.map_map]
   congr 1
   refine List.map_congr_left fun s hs=> ?_;have hs2:=hp.2;rw[aaY,List.any_eq_false] at hs2;exact ih s (by have:=adu hs;omega) (by simpa using hs2 s hs)
theorem am1{g:Sg}{σ:Int->T}{ts:List T}(h:abu g ts=false):ts.map (T.sub fun v=>apQ g (σ v))=(ts.map (T.sub σ)).map (apQ g):=by
 rw[List.map_map];refine List.map_congr_left fun s hs=> ?_;rw[aaY,List.any_eq_false] at h;exact(al7 _ s (af _) (by simpa using h s hs)).symm
def asa(g:Sg)(x y:T):Prop:=(adQ g x=false/\adQ g y=false)\/(¬x.head<0/\¬y.head<0/\abu g x.args=false/\abu g y.args=false)
theorem ajs{g:Sg}{x y:T}{s:Sb}(hm:abG (fun θ=>x.sub θ=y.sub θ) s)(hx:asa g x y){v:Int}(h0:0<=v)(h1:v<=255):aap g (ofS s v).head=false:=by
 have hE:x.sub (fun v=>apQ g (ofS s v))=y.sub (fun v=>apQ g (ofS s v)):=by
  have hu:=hm.unif
  rcases hx with⟨hx,hy⟩|⟨x0,y0,hx,hy⟩
  ·rw[←al7 _ x (af _) hx,←al7 _ y (af _) hy,hu]
  ·rw[T.sub_pos x0,T.sub_pos y0] at hu;rw[T.sub_pos x0,T.sub_pos y0,am1 hx,am1 hy];injection hu with e1 e2
   rw[e1,e2]
 have hk:=hm.most _ hE v h0 h1;cases hp:aap g (ofS s v).head with
 |false=>rfl
 |true=>
  have hh:¬(ofS s v).head<0:=by
   unfold aap at hp;simp only[Bool.and_eq_true,decide_eq_true_eq] at hp;omega
  rw[apS,hp,if_pos rfl,T.sub_pos hh] at hk;have:=congrArg T.head hk;have h3:(-1-0:Int)=(ofS s v).head:=this;omega
theorem asb{ts:List T}{h:Int}(hh:h∈T.hdsL ts):∃s∈ts,h∈s.hds:=by
 induction ts with
 |nil=>rw[T.hdsL] at hh;cases hh
 |cons t ts ih=>
  rw[T.hdsL,aG] at hh
  rcases hh with hh|hh
  ·exact⟨t,List.mem_cons_self ..,hh⟩
  ·obtain⟨s,h1,h2⟩:=ih hh;exact⟨s,aH _ h1,h2⟩
theorem asc{g:Sg}{σ:Int->T}(hσ:∀v:Int,0<=v->v<=255->aap g (σ v).head=false):∀(N:Nat) (t:T),t.size<=N->bad (T.subs 1 t)=false->OkV g (t.sub σ)->∀h∈t.hds,h<0->OkV g (σ (-1-h))/\aap g (σ (-1-h)).head=false:=by
 intro N
 induction N with
 |zero=>intro t ht;have:=T.size_pos t;omega
 |succ N ih=>
  intro t ht hg ho h hh hn;rw[T.hds_eq,List.mem_cons] at hh;by_cases h0:t.head<0
  ·obtain⟨v0,v1,_⟩:=aaT hg h0;rw[acV hg h0] at hh
   rcases hh with rfl|hh
   ·rw[T.sub_neg h0] at ho;exact⟨ho,hσ _ v0 v1⟩
   ·rw[T.hdsL] at hh;cases hh
  ·rcases hh with rfl|hh
   ·exact absurd hn h0
   ·obtain⟨s,hs,hsh⟩:=asb hh;obtain⟨k,hk⟩:=au hs
    have ha:s.sub σ∈(t.sub σ).args:=by
     rw[T.sub_pos h0,T.args_node];exact List.mem_map.2 ⟨s,hs,rfl⟩
    exact ih s (by have:=adu hs;omega) (aaA hg hk) (alI ho ha).1 h hsh hn
theorem apT{g:Sg}{m:Ip}(hm:abg g m=true){f:List Int}(hf:okF m f){σ:Int->T}(hσ:∀v:Int,0<=v->v<=255->aap g (σ v).head=false){t:T}(hg:bad (T.subs 1 t)=false)(ho:OkV g (t.sub σ)):avK m f σ t:=fun h hh hn=>by
 obtain⟨h1,h2⟩:=asc hσ _ t (af _) hg ho h hh hn;obtain⟨h3,h4⟩:=ah3 hm hf.2 _ _ (af _) h1;exact⟨h3,h4 h2⟩
def afz(C:List Lt3)(t:T):Prop:=∃y∈C,t=y.l\/t=y.r
theorem ag0{g:Sg}{s:Sb}{C:List Lt3}(hc:aaN g C=0)(ha:acE s C=0)(hd:aaN g (acL s C)=0){t:T}(h:afz C t):bad (T.subs 1 t)=false/\abe s t=t.sub (ofS s)/\OkV g (t.sub (ofS s)):=by
 obtain⟨y,hy,ht⟩:=h;obtain⟨_,hak,hmp⟩:=agO ha;obtain⟨e1,e2⟩:=abq ((aba hc).2.2 y hy);obtain⟨a1,a2⟩:=alW (hak y hy);obtain⟨d1,d2⟩:=abq ((aba hd).2.2 (ap3 s y) (by rw[hmp];exact List.mem_map.2 ⟨y,hy,rfl⟩))
 rcases ht with rfl|rfl
 ·refine⟨adE e1,(acs a1).1,?_⟩;rw[←(acs a1).1];exact amL d1
 ·refine⟨adE e2,(acs a2).1,?_⟩;rw[←(acs a2).1];exact amL d2
theorem akI{g:Sg}{m:Ip}(hm:abg g m=true){f:List Int}(hf:okF m f){s:Sb}{C D:List Lt3}(hc:aaN g C=0)(ha:acE s C=0)(hd:aaN g (acL s C)=0)(hσ:∀v:Int,0<=v->v<=255->aap g (ofS s v).head=false)(hD:∀x∈D,afz C x.l/\afz C x.r):aee m f (D.map (ap3 s))=aee m (al5 m f (ofS s)) D:=by
 have e:D.map (ap3 s)=D.map (Lt3.sub (ofS s)):=List.map_congr_left fun x hx=>by
  show Lt3.mk x.neg (abe s x.l) (abe s x.r)=_;rw[(ag0 hc ha hd (hD x hx).1).2.1,(ag0 hc ha hd (hD x hx).2).2.1];rfl
 rw[e];refine apP fun x hx=> ?_;obtain⟨g1,_,o1⟩:=ag0 hc ha hd (hD x hx).1;obtain⟨g2,_,o2⟩:=ag0 hc ha hd (hD x hx).2;exact⟨⟨g1,g2⟩,apT hm hf hσ g1 o1,apT hm hf hσ g2 o2⟩
theorem ajt{g:Sg}{m:Ip}(hm:abg g m=true){f:List Int}(hf:okF m f){s:Sb}{C:List Lt3}(hc:aaN g C=0)(ha:acE s C=0)(hd:aaN g (acL s C)=0)(hσ:∀v:Int,0<=v->v<=255->aap g (ofS s v).head=false){t:T}(h:afz C t):aby m (al5 m f (ofS s)) t=aby m f (t.sub (ofS s)):=by
 obtain⟨g1,_,o1⟩:=ag0 hc ha hd h;exact(ajr _ t (af _) g1 (apT hm hf hσ g1 o1)).symm
def adj(g:Sg)(D:List Lt3)(s:Sb):Option (List Lt3):=if acE s D=0/\abv (aad (tidy (acL s D)))=false/\aaN g (nmL (tidy (acL s D)))=0 then some (nmL (tidy (acL s D))) else none
theorem aeA{g:Sg}{D n:List Lt3}{s:Sb}(h:adj g D s=some n):acE s D=0/\abv (aad (tidy (acL s D)))=false/\aaN g n=0/\n=nmL (tidy (acL s D)):=by
 unfold adj at h;split at h
 ·rename_i hk;cases h;exact⟨hk.1,hk.2.1,hk.2.2,rfl⟩
 ·cases h
theorem kept_holds{g:Sg}{m:Ip}(hm:abg g m=true){D n:List Lt3}{s:Sb}(h:adj g D s=some n)(hh:∀f,okF m f->aee m f (D.map (ap3 s))=true):ab1 m n:=by
 obtain⟨h1,h2,_,rfl⟩:=aeA h;refine ar9 (aa0 hm).2.1 h2 (an9 fun f hf=> ?_);rw[(agO h1).2.2];exact hh f hf
theorem mem_erase{C:List Lt3}{i:Nat}{x y:Lt3}(hx:C[i]? =some x)(hy:y∈C):y=x\/y∈C.eraseIdx i:=by
 obtain⟨j,hj⟩:=au hy;by_cases e:j=i
 ·subst e;rw[hx] at hj;cases hj;exact .inl rfl
 ·exact .inr (List.mem_eraseIdx_iff_getElem?.2 ⟨j,e,hj⟩)
theorem ab2{C:List Lt3}{i:Nat}{y:Lt3}(h:y∈C.eraseIdx i):y∈C:=List.mem_of_mem_eraseIdx h
theorem asd{g:Sg}{l r:T}(h:abn g l r=0):asa g l r:=by
 obtain⟨e1,e2⟩:=abq h;have p1:=(aaR e1).2.2.2;have p2:=(aaR e2).2.2.2
 have hs:ace g l r=0:=by
  unfold abn at h;rw[if_neg (fun e=>e e1),if_neg (fun e=>e e2)] at h;exact h
 unfold ace at hs;cases hl:aap g l.head with
 |true=>
  rw[hl,if_pos rfl] at hs
  have hr:r.head=0:=by
   by_cases e:r.head=0
   ·exact e
   ·rw[if_neg e] at hs;cases hs
  refine .inr ⟨?_,by omega,p1,p2⟩;unfold aap at hl;simp only[Bool.and_eq_true,decide_eq_true_eq] at hl;omega
 |false=>
  rw[hl,if_neg (by decide)] at hs;cases hr:aap g r.head with
  |true=>rw[hr,if_pos rfl] at hs;cases hs
  |false=>exact .inl ⟨by rw[abc,hl,p1];rfl,by rw[abc,hr,p2];rfl⟩
theorem eq_holds{g:Sg}{m:Ip}(hm:abg g m=true){C n:List Lt3}{s:Sb}{i:Nat}{x:Lt3}(hc:aaN g C=0)(hx:C[i]? =some x)(hn:x.neg=true)(hu:abG (fun θ=>x.l.sub θ=x.r.sub θ) s)(ha:acE s C=0)(hd:aaN g (acL s C)=0)(hk:adj g (C.eraseIdx i) s=some n)(hC:ab1 m C):ab1 m n:=by
 have hxm:=ak hx;have hσ:∀v:Int,0<=v->v<=255->aap g (ofS s v).head=false:=fun v h0 h1=>ajs hu (asd ((aba hc).2.2 x hxm)) h0 h1;refine kept_holds hm hk fun f hf=> ?_;rw[akI hm hf hc ha hd hσ fun y hy=>⟨⟨y,ab2 hy,.inl rfl⟩,⟨y,ab2 hy,.inr rfl⟩⟩];have h:=hC _ (al6 (aa0 hm).2.1 f (ofS s));unfold aee at h;obtain⟨y,hy,hl⟩:=List.any_eq_true.1 h
 rcases mem_erase hx hy with rfl|hy
 ·exfalso;unfold agC at hl;rw[hn,ajt hm hf hc ha hd hσ ⟨y,hxm,.inl rfl⟩,ajt hm hf hc ha hd hσ ⟨y,hxm,.inr rfl⟩,show y.l.sub (ofS s)=y.r.sub (ofS s) from hu.unif] at hl;simp at hl
 ·exact List.any_eq_true.2 ⟨y,hy,hl⟩
theorem fa_holds{g:Sg}{m:Ip}(hm:abg g m=true){C n:List Lt3}{by_:Sb}{i k:Nat}{x z:Lt3}{s t u v:T}(hc:aaN g C=0)(hik:i≠k)(hx:C[i]? =some x)(hz:C[k]? =some z)(hxn:x.neg=false)(hzn:z.neg=false)(hst:acC s t x.l x.r)(huv:acC u v z.l z.r)(hso:asa g s u)(hu:abG (fun θ=>s.sub θ=u.sub θ) by_)(ha:acE by_ C=0)(hd:aaN g (acL by_ C)=0)(hk:adj g (C.eraseIdx i++[⟨true,t,v⟩]) by_=some n)(hC:ab1 m C):ab1 m n:=by
 have hxm:=ak hx;have hzm:=ak hz;have hσ:∀v:Int,0<=v->v<=255->aap g (ofS by_ v).head=false:=fun v h0 h1=>ajs hu hso h0 h1
 have is_:afz C s/\afz C t:=by
  rcases hst with⟨rfl,rfl⟩|⟨rfl,rfl⟩
  ·exact⟨⟨x,hxm,.inl rfl⟩,⟨x,hxm,.inr rfl⟩⟩
  ·exact⟨⟨x,hxm,.inr rfl⟩,⟨x,hxm,.inl rfl⟩⟩
 have iu:afz C u/\afz C v:=by
  rcases huv with⟨rfl,rfl⟩|⟨rfl,rfl⟩
  ·exact⟨⟨z,hzm,.inl rfl⟩,⟨z,hzm,.inr rfl⟩⟩
  ·exact⟨⟨z,hzm,.inr rfl⟩,⟨z,hzm,.inl rfl⟩⟩
 refine kept_holds hm hk fun f hf=> ?_
 rw[akI hm hf hc ha hd hσ fun y hy=>by
  rcases aG.1 hy with hy|hy
  ·exact⟨⟨y,ab2 hy,.inl rfl⟩,⟨y,ab2 hy,.inr rfl⟩⟩
  ·simp at hy;subst hy;exact⟨is_.2,iu.2⟩]
 have h:=hC _ (al6 (aa0 hm).2.1 f (ofS by_))
 have e1:aby m (al5 m f (ofS by_)) s=aby m (al5 m f (ofS by_)) u:=by
  rw[ajt hm hf hc ha hd hσ is_.1,ajt hm hf hc ha hd hσ iu.1,show s.sub (ofS by_)=u.sub (ofS by_) from hu.unif]
 generalize al5 m f (ofS by_)=f' at h e1 ⊢;unfold aee at h ⊢;obtain⟨y,hy,hl⟩:=List.any_eq_true.1 h
 rcases mem_erase hx hy with rfl|hy
 ·have e2:aby m f' s=aby m f' t:=by
   unfold agC at hl;rw[hxn] at hl;have hl':aby m f' y.l=aby m f' y.r:=by simpa using hl
   rcases hst with⟨rfl,rfl⟩|⟨rfl,rfl⟩
   ·exact hl'
   ·exact hl'.symm
  by_cases e3:aby m f' t=aby m f' v
  ·refine List.any_eq_true.2 ⟨z,List.mem_append_left _ (List.mem_eraseIdx_iff_getElem?.2 ⟨k,fun e=>hik e.symm,hz⟩),?_⟩;unfold agC;have e4:aby m f' u=aby m f' v:=by omega
   have e5:aby m f' z.l=aby m f' z.r:=by
    rcases huv with⟨rfl,rfl⟩|⟨rfl,rfl⟩
    ·exact e4
    ·exact e4.symm
   rw[hzn];simp[e5]
  ·refine List.any_eq_true.2 ⟨⟨true,t,v⟩,List.mem_append_right _ (List.mem_singleton.2 rfl),?_⟩;unfold agC;simp[e3]
 ·exact List.any_eq_true.2 ⟨y,List.mem_append_left _ hy,hl⟩
structure Gp where
 c:List Lt3
 i:Int
 k:Int
 pl:List Int
 s:Sb
noncomputable def uni(x y:T):Sb×Bool×Int:=Classical.epsilon fun r:Sb×Bool×Int=>adk x y r.1 r.2.1 r.2.2
theorem akJ{x y:T}{s:Sb}{b:Bool}{k:Int}(h:adk x y s b k):adk x y (uni x y).1 (uni x y).2.1 (uni x y).2.2:=@Classical.epsilon_spec (Sb×Bool×Int) (fun r=>adk x y r.1 r.2.1 r.2.2) ⟨(s,b,k),h⟩
theorem adv{x y:T}{s:Sb}{b:Bool}{k:Int}(h:adk x y s b k):(uni x y).1=s/\(uni x y).2.1=b/\(uni x y).2.2=k:=by
 obtain⟨h1,h2,h3⟩:=adk.fn (akJ h) h;exact⟨h1,h2,h3⟩
theorem apU{x y:T}(h:adk x y (uni x y).1 (uni x y).2.1 (uni x y).2.2)(hb:(uni x y).2.1=true):x.check=0/\y.check=0/\abG (fun θ=>x.sub θ=y.sub θ) (uni x y).1/\(uni x y).2.2=0:=by
 rcases h with⟨_,_,h,_⟩|⟨⟨h1,h2⟩,h⟩
 ·rw[hb] at h;cases h
 ·rcases h with⟨_,_,h,_⟩|⟨m,hm,⟨_,_,h,_⟩|⟨_,h3,_,h4⟩⟩
  ·rw[hb] at h;cases h
  ·rw[hb] at h;cases h
  ·exact⟨h1,h2,by rw[h3];exact hm,h4⟩
def one(b:Bool):Nat:=if b then 1 else 0
noncomputable def eqS(g:Sg)(C:List Lt3)(how:Int)(i:Nat)(x:Lt3):Option Gp×Nat:=
 if x.neg then
  if(uni x.l x.r).2.1 then
   if myR g C how i (uni x.l x.r).1 then
    match adj g (C.eraseIdx i) (uni x.l x.r).1 with
    |none=>(none,1)
    |some n=>(some ⟨n,i,-1,[],(uni x.l x.r).1⟩,0)
   else(none,one (decide (myE g C how i (uni x.l x.r).1≠0)))
  else(none,one (decide ((uni x.l x.r).2.2≠0)))
 else(none,0)
noncomputable def eqF(g:Sg)(C:List Lt3)(how:Int):Nat->List Gp×Nat
 |0=>([],0)
 |i+1=>((eqF g C how i).1++(eqS g C how i (C.getD i z3)).1.toList,(eqF g C how i).2+(eqS g C how i (C.getD i z3)).2)
noncomputable def eqG(g:Sg)(C:List Lt3)(how:Int):List Gp:=if seE g C how=0 then(eqF g C how C.length).1 else[]
noncomputable def eqN(g:Sg)(C:List Lt3)(how:Int):Nat:=if seE g C how=0 then(eqF g C how C.length).2 else 0
def awE(g:Sg)(C:List Lt3)(how:Int)(p:Gp):Prop:=∃(i:Nat) (x:Lt3),C[i]? =some x/\x.neg=true/\(uni x.l x.r).2.1=true/\myR g C how i (uni x.l x.r).1=true/\adj g (C.eraseIdx i) (uni x.l x.r).1=some p.c/\p=⟨p.c,i,-1,[],(uni x.l x.r).1⟩
theorem auj{g:Sg}{C:List Lt3}{how:Int}{i:Nat}{x:Lt3}(hx:C[i]? =some x){p:Gp}(h:p∈(eqS g C how i x).1.toList):awE g C how p:=by
 unfold eqS at h;split at h
 ·rename_i h1;split at h
  ·rename_i h2;split at h
   ·rename_i h3;cases hk:adj g (C.eraseIdx i) (uni x.l x.r).1 with
    |none=>rw[hk] at h;simp at h
    |some n=>
     rw[hk] at h;simp at h;subst h;exact⟨i,x,hx,by simpa using h1,by simpa using h2,by simpa using h3,hk,rfl⟩
   ·simp at h
  ·simp at h
 ·simp at h
theorem apV{g:Sg}{C:List Lt3}{how:Int}:∀{k:Nat},k<=C.length->∀{p:Gp},p∈(eqF g C how k).1->awE g C how p
 |0,_,p,h=>by simp[eqF] at h
 |k+1,hk,p,h=>by
  rw[eqF] at h
  rcases aG.1 h with h|h
  ·exact apV (by omega) h
  ·refine auj (ai (show k<C.length by omega)) ?_;rw[aaD (ai (show k<C.length by omega))] at h;exact h
theorem aju{g:Sg}{C:List Lt3}{how:Int}{p:Gp}(h:p∈eqG g C how):seE g C how=0/\awE g C how p:=by
 unfold eqG at h;split at h
 ·exact⟨by assumption,apV (af _) h⟩
 ·cases h
def aae(x:Lt3)(a:Nat):T×T:=if a=0 then(x.l,x.r) else(x.r,x.l)
theorem ag1(x:Lt3)(a:Nat):acC (aae x a).1 (aae x a).2 x.l x.r:=by
 unfold aae;split
 ·exact .inl ⟨rfl,rfl⟩
 ·exact .inr ⟨rfl,rfl⟩
def sortT(g:Sg)(t:T):Int:=if t.head=0 then 2 else if aap g t.head then 1 else 0
def ase(g:Sg)(s:Sb)(a b:T):Bool:=decide (aeN s a=0/\aeN s b=0/\abM g [abe s a,abe s b]=0/\abp g (abe s a) (abe s b)≠ -1/\abp g (abe s a) (abe s b)≠0)
noncomputable def faS(g:Sg)(C:List Lt3)(i k a b:Nat):Option Gp×Nat:=
 if sortT g (aae (C.getD i z3) a).1≠sortT g (aae (C.getD k z3) b).1\/sortT g (aae (C.getD i z3) a).1=2 then(none,0)
 else if(uni (aae (C.getD i z3) a).1 (aae (C.getD k z3) b).1).2.2≠0 then(none,1)
 else if(uni (aae (C.getD i z3) a).1 (aae (C.getD k z3) b).1).2.1=false then(none,0)
 else if acE (uni (aae (C.getD i z3) a).1 (aae (C.getD k z3) b).1).1 C≠0\/aaN g (acL (uni (aae (C.getD i z3) a).1 (aae (C.getD k z3) b).1).1 C)≠0 then(none,1)
 else if ase g (uni (aae (C.getD i z3) a).1 (aae (C.getD k z3) b).1).1 (aae (C.getD i z3) a).1 (aae (C.getD i z3) a).2=false\/ali g (acL (uni (aae (C.getD i z3) a).1 (aae (C.getD k z3) b).1).1 C) i false=false then(none,0)
 else match adj g (C.eraseIdx i++[⟨true,(aae (C.getD i z3) a).2,(aae (C.getD k z3) b).2⟩]) (uni (aae (C.getD i z3) a).1 (aae (C.getD k z3) b).1).1 with
  |none=>(none,1)
  |some n=>(some ⟨n,i,k,[],(uni (aae (C.getD i z3) a).1 (aae (C.getD k z3) b).1).1⟩,0)
noncomputable def fa4(g:Sg)(C:List Lt3)(i k:Nat):Nat->List Gp×Nat
 |0=>([],0)
 |n+1=>((fa4 g C i k n).1++(faS g C i k (n/2) (n%2)).1.toList,(fa4 g C i k n).2+(faS g C i k (n/2) (n%2)).2)
def au5(C:List Lt3)(i k:Nat):Bool:=decide (i≠k)&&(!(C.getD i z3).neg&& !(C.getD k z3).neg)
noncomputable def faK(g:Sg)(C:List Lt3)(i:Nat):Nat->List Gp×Nat
 |0=>([],0)
 |k+1=>if au5 C i k then((faK g C i k).1++(fa4 g C i k 4).1,(faK g C i k).2+(fa4 g C i k 4).2) else faK g C i k
noncomputable def faF(g:Sg)(C:List Lt3):Nat->List Gp×Nat
 |0=>([],0)
 |i+1=>((faF g C i).1++(faK g C i C.length).1,(faF g C i).2+(faK g C i C.length).2)
noncomputable def faG(g:Sg)(C:List Lt3)(how:Int):List Gp:=if seE g C how=0 then(if abb g C how=[] then(faF g C C.length).1 else[]) else[]
noncomputable def faN(g:Sg)(C:List Lt3)(how:Int):Nat:=if seE g C how=0 then(if abb g C how=[] then(faF g C C.length).2 else 0) else 0
def au6(g:Sg)(C:List Lt3)(p:Gp):Prop:=∃(i k a b:Nat) (x z:Lt3),i≠k/\C[i]? =some x/\C[k]? =some z/\x.neg=false/\z.neg=false/\sortT g (aae x a).1=sortT g (aae z b).1/\sortT g (aae x a).1≠2/\(uni (aae x a).1 (aae z b).1).2.1=true/\
 acE (uni (aae x a).1 (aae z b).1).1 C=0/\aaN g (acL (uni (aae x a).1 (aae z b).1).1 C)=0/\adj g (C.eraseIdx i++[⟨true,(aae x a).2,(aae z b).2⟩]) (uni (aae x a).1 (aae z b).1).1=some p.c
theorem auk{g:Sg}{C:List Lt3}{i k a b:Nat}{x z:Lt3}(hik:i≠k)(hx:C[i]? =some x)(hz:C[k]? =some z)(hxn:x.neg=false)(hzn:z.neg=false){p:Gp}(h:p∈(faS g C i k a b).1.toList):au6 g C p:=by
 unfold faS at h;rw[aaD hx,aaD hz] at h;split at h
 ·simp at h
 ·rename_i h1;split at h
  ·simp at h
  ·split at h
   ·simp at h
   ·rename_i h3;split at h
    ·simp at h
    ·rename_i h4;split at h
     ·simp at h
     ·rename_i h5;cases hk:adj g (C.eraseIdx i++[⟨true,(aae x a).2,(aae z b).2⟩]) (uni (aae x a).1 (aae z b).1).1 with
      |none=>rw[hk] at h;simp at h
      |some n=>
       rw[hk] at h;simp at h;subst h;simp only[not_or,Decidable.not_not,ne_eq] at h1 h4;exact⟨i,k,a,b,x,z,hik,hx,hz,hxn,hzn,h1.1,h1.2,by simpa using h3,h4.1,h4.2,hk⟩
theorem apW{g:Sg}{C:List Lt3}{i k:Nat}{x z:Lt3}(hik:i≠k)(hx:C[i]? =some x)(hz:C[k]? =some z)(hxn:x.neg=false)(hzn:z.neg=false){p:Gp}:∀{n:Nat},p∈(fa4 g C i k n).1->au6 g C p
 |0,h=>by simp[fa4] at h
 |n+1,h=>by
  rw[fa4] at h
  rcases aG.1 h with h|h
  ·exact apW hik hx hz hxn hzn h
  ·exact auk hik hx hz hxn hzn h
theorem al8{g:Sg}{C:List Lt3}{i:Nat}(hi:i<C.length){p:Gp}:∀{k:Nat},k<=C.length->p∈(faK g C i k).1->au6 g C p
 |0,_,h=>by simp[faK] at h
 |k+1,hk,h=>by
  rw[faK] at h;split at h
  ·rename_i ho
   rcases aG.1 h with h|h
   ·exact al8 hi (by omega) h
   ·have hx:C[i]? =some C[i]:=ai hi;have hz:C[k]? =some C[k]:=ai (show k<C.length by omega);unfold au5 at ho;rw[aaD hx,aaD hz] at ho;simp at ho;exact apW ho.1 hx hz ho.2.1 ho.2.2 h
  ·exact al8 hi (by omega) h
theorem apX{g:Sg}{C:List Lt3}{p:Gp}:∀{i:Nat},i<=C.length->p∈(faF g C i).1->au6 g C p
 |0,_,h=>by simp[faF] at h
 |i+1,hi,h=>by
  rw[faF] at h
  rcases aG.1 h with h|h
  ·exact apX (by omega) h
  ·exact al8 (show i<C.length by omega) (af _) h
theorem ajv{g:Sg}{C:List Lt3}{how:Int}{p:Gp}(h:p∈faG g C how):seE g C how=0/\abb g C how=[]/\au6 g C p:=by
 unfold faG at h;split at h
 ·split at h
  ·exact⟨by assumption,by assumption,apX (af _) h⟩
  ·cases h
 ·cases h
theorem avN{g:Sg}{C:List Lt3}{how i:Int}{s:Sb}(h:myR g C how i s=true):acE s C=0/\aaN g (acL s C)=0:=by
 have he:myE g C how i s=0:=by
  by_cases e:myE g C how i s=0
  ·exact e
  ·unfold myR at h;rw[if_neg e] at h;cases h
 unfold myE at he;split at he
 ·split at he
  ·split at he
   ·exact⟨by assumption,he⟩
   ·contradiction
  ·cases he
 ·contradiction
theorem eqOf_holds{g:Sg}{m:Ip}(hm:abg g m=true){C:List Lt3}{how:Int}(hc:aaN g C=0){p:Gp}(hp:awE g C how p)(hu:∀x∈C,adk x.l x.r (uni x.l x.r).1 (uni x.l x.r).2.1 (uni x.l x.r).2.2)(hC:ab1 m C):ab1 m p.c:=by
 obtain⟨i,x,hx,hn,hb,hmy,hk,_⟩:=hp;obtain⟨_,_,hmgu,_⟩:=apU (hu x (ak hx)) hb;obtain⟨h1,h2⟩:=avN hmy;exact eq_holds hm hc hx hn hmgu h1 h2 hk hC
theorem akK{g:Sg}{s u:T}(hs:aaH g s=0)(hu:aaH g u=0)(h:sortT g s=sortT g u)(h2:sortT g s≠2):asa g s u:=by
 have p1:=(aaR hs).2.2.2;have p2:=(aaR hu).2.2.2;unfold sortT at h h2;have hs0:s.head≠0:=fun e=>by rw[if_pos e] at h2;exact h2 rfl
 have hu0:u.head≠0:=fun e=>by
  rw[if_pos e,if_neg hs0] at h;split at h<;>cases h
 rw[if_neg hs0,if_neg hu0] at h;cases h3:aap g s.head with
 |true=>
  cases h4:aap g u.head with
  |true=>
   refine .inr ⟨?_,?_,p1,p2⟩
   ·unfold aap at h3;simp only[Bool.and_eq_true,decide_eq_true_eq] at h3;omega
   ·unfold aap at h4;simp only[Bool.and_eq_true,decide_eq_true_eq] at h4;omega
  |false=>rw[h3,h4] at h;cases h
 |false=>
  cases h4:aap g u.head with
  |true=>rw[h3,h4] at h;cases h
  |false=>exact .inl ⟨by rw[abc,h3,p1];rfl,by rw[abc,h4,p2];rfl⟩
theorem acK{g:Sg}{x:Lt3}{a:Nat}(h:abn g x.l x.r=0):aaH g (aae x a).1=0/\aaH g (aae x a).2=0:=by
 obtain⟨h1,h2⟩:=abq h;unfold aae;split
 ·exact⟨h1,h2⟩
 ·exact⟨h2,h1⟩
theorem faOf_holds{g:Sg}{m:Ip}(hm:abg g m=true){C:List Lt3}(hc:aaN g C=0){p:Gp}(hp:au6 g C p)(hu:∀t u:T,adk t u (uni t u).1 (uni t u).2.1 (uni t u).2.2)(hC:ab1 m C):ab1 m p.c:=by
 obtain⟨i,k,a,b,x,z,hik,hx,hz,hxn,hzn,s1,s2,hb,h1,h2,hk⟩:=hp;obtain⟨_,_,hmgu,_⟩:=apU (hu _ _) hb;have ex:=(acK (a:=a) ((aba hc).2.2 x (ak hx))).1;have ez:=(acK (a:=b) ((aba hc).2.2 z (ak hz))).1;exact fa_holds hm hc hik hx hz hxn hzn (ag1 x a) (ag1 z b) (akK ex ez s1 s2) hmgu h1 h2 hk hC
structure GV where
 P:List LV
 i:Int
 k:Int
 zs:List Int
 s:Sb
 pc:Option Addr
 cc:Nat
 pp:Option Addr
 cp:Nat
 pb:Option Addr
 cb:Nat
abbrev GV.v(x:GV):Value:= .agg #[.slice x.pc x.P.length x.cc,.int .i64 x.i,.int .i64 x.k,.slice x.pp x.zs.length x.cp,.slice x.pb x.s.length x.cb]
abbrev GV.cells(x:GV):List Value:=[.slice x.pc x.P.length x.cc,.int .i64 x.i,.int .i64 x.k,.slice x.pp x.zs.length x.cp,.slice x.pb x.s.length x.cb]
def GV.gp(x:GV):Gp:=⟨t3s x.P,x.i,x.k,x.zs,x.s⟩
def AtG(W:World)(b o:Nat)(x:GV):Prop:=
 W.cell? ⟨b,o,none⟩=some (.slice x.pc x.P.length x.cc)/\W.cell? ⟨b,o+1,none⟩=some (.int .i64 x.i)/\W.cell? ⟨b,o+2,none⟩=some (.int .i64 x.k)/\W.cell? ⟨b,o+3,none⟩=some (.slice x.pp x.zs.length x.cp)/\W.cell? ⟨b,o+4,none⟩=some (.slice x.pb x.s.length x.cb)
theorem AtG.keep{W X:World}{b o:Nat}{x:GV}(h:AtG W b o x)(hc:∀i,X.cell? ⟨b,i,none⟩=W.cell? ⟨b,i,none⟩):AtG X b o x:=
 ⟨(hc _).trans h.1,(hc _).trans h.2.1,(hc _).trans h.2.2.1,(hc _).trans h.2.2.2.1,(hc _).trans h.2.2.2.2⟩
structure ans (aM:Nat) (w:World) (x:GV):Prop where
 iw:(Lit.int .i64 x.i).wf=true
 kw:(Lit.int .i64 x.k).wf=true
 cl:aaV aM w x.P x.pc x.cc
 pl:acP aM w x.zs x.pp x.cp
 bs:ahj aM w x.s x.pb x.cb
theorem ans.below{aM:Nat}{w w':World}{x:GV}(h:ans aM w x)(hb:Below aM w w'):ans aM w' x:=⟨h.iw,h.kw,h.cl.below hb,h.pl.below hb,h.bs.below hb⟩
theorem ans.mono{aM aN:Nat}{w:World}{x:GV}(h:ans aM w x)(hn:aM<=aN):ans aN w x:=⟨h.iw,h.kw,h.cl.mono hn,h.pl.mono hn,h.bs.mono hn⟩
def ahl(aM:Nat)(W:World)(G:List GV)(a:Option Addr)(c:Nat):Prop:=
 G.length<=c/\c<=maxLen/\(G=[]\/∃b o,a=some ⟨b,o,none⟩/\b<aM/\∀(j:Nat) (x:GV),G[j]? =some x->AtG W b (o+j*5) x/\ans aM W x)
theorem ahl.below{aM:Nat}{w w':World}{G:List GV}{a:Option Addr}{c:Nat}(h:ahl aM w G a c)(hb:Below aM w w'):ahl aM w' G a c:=by
 obtain⟨h1,h2,h3⟩:=h;refine⟨h1,h2,?_⟩
 rcases h3 with h3|⟨b,o,h4,h5,h6⟩
 ·exact .inl h3
 ·exact .inr ⟨b,o,h4,h5,fun j x hx=>⟨(h6 j x hx).1.keep (fun i=>hb.cell (p:=⟨b,i,none⟩) h5),(h6 j x hx).2.below hb⟩⟩
theorem ahl.mono{aM aN:Nat}{w:World}{G:List GV}{a:Option Addr}{c:Nat}(h:ahl aM w G a c)(hn:aM<=aN):ahl aN w G a c:=by
 obtain⟨h1,h2,h3⟩:=h;refine⟨h1,h2,?_⟩
 rcases h3 with h3|⟨b,o,h4,h5,h6⟩
 ·exact .inl h3
 ·exact .inr ⟨b,o,h4,by omega,fun j x hx=>⟨(h6 j x hx).1,(h6 j x hx).2.mono hn⟩⟩
theorem adN{W:World}{G:List GV}{a:Option Addr}{c:Nat}(h:ahl W.heap.size W G a c):aai (fun X=>ahl X.heap.size X G a c) W:=fun X hX=>(h.below hX).mono hX.size
theorem ahl.elem{aM:Nat}{w:World}{G:List GV}{a:Option Addr}{c:Nat}(h:ahl aM w G a c){i:Nat}(hi:i<G.length):
 ∃(b o:Nat) (x:GV),a=some ⟨b,o,none⟩/\b<aM/\G[i]? =some x/\AtG w b (o+i*5) x/\ans aM w x:=by
 obtain⟨_,_,h3⟩:=h
 rcases h3 with rfl|⟨b,o,rfl,h4,h5⟩
 ·simp at hi
 ·exact⟨b,o,G[i],rfl,h4,ai hi,h5 i _ (ai hi)⟩
theorem ahl.nil(aM:Nat)(w:World)(a:Option Addr){c:Nat}(hc:c<=maxLen):ahl aM w [] a c:=⟨by simp,hc,.inl rfl⟩
def gps(G:List GV):List Gp:=G.map GV.gp
theorem adO(G:List GV):(gps G).length=G.length:=by simp[gps]
theorem aul{G:List GV}{j:Nat}{x:GV}(h:G[j]? =some x):(gps G)[j]? =some x.gp:=by simp[gps,h]
def FgI(g:Sg)(w:World)(i:Value)(wr:World):Prop:=∃k:Nat,k<=g.length/\i= .int .i64 k/\Below w.heap.size w wr
def avO(w:World)(e:Ending)(w':World):Prop:=∃b:Bool,e= .returned (.bool b)/\Below w.heap.size w w'
theorem asf(g:Sg)(aM:Nat)(a:Option Addr)(c:Nat)(w:World)(hn:aM<=w.heap.size)(hG:aaX aM w g a c):
 Calls Tryz.prog 24 #[.slice a g.length c] w (avO w):=by
 have hlc:g.length<=c/\c<=maxLen:=⟨hG.1,hG.2.1⟩;unfold maxLen at hlc;obtain⟨hl1,hl2⟩:=hlc;have HG:=ae hG;clear hG;go_enter Tryz.func24,Tryz.ntmps24;go_wp2
 go_loopw [3] (fun i wr=>FgI g w i wr) (fun i _=>g.length-(intOf i).toNat)
 case atStart=>exact⟨0,Nat.zero_le _,rfl,ag _ _⟩
 case round=>
  obtain⟨k,hk,rfl,hB⟩:=hrel;have HB:=ae hB;have hbz:=hB.size;by_cases hlt:k<g.length
  ·obtain⟨b,o,x,rfl,hbn,hs,hxw,hc0,hc1,hc2,hc3⟩:=(HG.out.below (hB.mono hn)).elem (i:=k) hlt;have hk0:(0:Int)<=(k:Int):=aw _;have hk1:(k:Int)<(g.length:Int):=by omega
   have hxs:=hxw.1;unfold maxLen at hxs;clear hs hxw hB;by_cases q:300<g.length
   ·go_wp2
    all_goals (go_ret;exact⟨_,rfl,HB.out⟩)
   ·by_cases q2:100<x.name.size
    ·go_wp2
     all_goals (go_ret;exact⟨_,rfl,HB.out⟩)
    ·go_wp2
     go_roundw
     case rel=>exact⟨k+1,by omega,by go_num,HB.out⟩
     case measure=>simp[intOf];omega
  ·obtain rfl:k=g.length:=by omega
   clear hB;go_wp2
   all_goals (go_ret;exact⟨_,rfl,HB.out⟩)
theorem aoa(P:List LV)(hl:P.length<=2000000000000)(aM:Nat)(a:Option Addr)(c:Nat)(w:World)(hn:aM<=w.heap.size)(hP:aaV aM w P a c):
 Calls Tryz.prog 55 #[.slice a P.length c] w (atc (aad (t3s P)) w):=by
 have hlc:P.length<=c/\c<=maxLen:=⟨hP.1,hP.2.1⟩;unfold maxLen at hlc;obtain⟨hl1,hl2⟩:=hlc;have HP:=ae (hP.mono hn);clear hP;go_enter Tryz.func55,Tryz.ntmps55;go_wp2
 go_loopw [3,4] (fun ov i wr=>awS P w ov i wr) (fun _ i _=>P.length-(intOf i).toNat)
 case atStart=>exact⟨0,Nat.zero_le _,rfl,OA.nil _ _,ag _ _⟩
 case round=>
  obtain⟨k,hk,rfl,hO,hB⟩:=hrel;have HO:=ae hO;have HB:=ae hB;have hbz:=hB.size;clear hO hB;by_cases hlt:k<P.length
  ·obtain⟨b,o,x,rfl,hb,hx,⟨a0,a1,a2,a3,a4⟩,hxl⟩:=(HP.out.below HB.out).elem (i:=k) hlt;have HX:=ae (And.intro hx hxl);have hk0:(0:Int)<=(k:Int):=aw _;have hk1:(k:Int)<(P.length:Int):=by omega
   have hbw:b<wr.heap.size:=by omega
   clear hx hxl a0;go_wp2;have hbd:Below wr.heap.size wr wr.drew:=(ag _ _).drew;obtain⟨xs,hown,hrv⟩:=HO.out;have hln:(aad (t3s (P.take k))).length=2*k:=by rw[ab8];simp;omega
   rw[hln] at hown;have HRV:=ae hrv;have HOWN:=ae hown;have HBD:=ae hbd;have HLN:=ae hln;have hkm:2*k+2<=maxLen:=by unfold maxLen;omega
   clear hrv hown hbd hln;obtain⟨i0,hi,hz0,hz1,hz2⟩:=info_parts acX
   go_region_law (refine step_append_lies _ (by rfl) _ _ _ (by rfl) w.heap.size 60 i0 _ 2 32 Tryz.underlying58 hi hz0 hz1 hz2 rfl (by omega) u3 (2*k) xs (by rfl) ((aaM HOWN.out HBD.out).alloc _) ⟨wr.drew.heap.size,0,none⟩ 2 2 [.int .i64 x.l.head,.slice x.pa x.l.args.length x.ca,.int .i64 x.r.head,.slice x.pb x.r.args.length x.cb] (by rfl) (by rfl) (World.news_of_block (cs:=#[.int .i64 x.l.head,.slice x.pa x.l.args.length x.ca,.int .i64 x.r.head,.slice x.pb x.r.args.length x.cb]) (t:=60) (fr:=(0,0)) (heap_alloc_new wr.drew _)) (by simp[Value.oneCell']) (by omega) hkm (by omega) (by simp;omega) (wr.drew.heap.size+1) (by simp) ?_;intro g cap w8 hown8 hgrow8 hat8 hlt8)
   all_goals
    have hal:Below wr.heap.size wr (wr.drew.alloc (.cells #[.int .i64 x.l.head,.slice x.pa x.l.args.length x.ca,.int .i64 x.r.head,.slice x.pb x.r.args.length x.cb] 60)):=HBD.out.alloc HBD.out.size _;have hg8:Below w.heap.size wr w8:=(hal.mono hbz).trans ((ag w.heap.size _).grown hgrow8 (by simp;omega) (fun q hq=>(HOWN.out.lt q hq).1));have hxl:=HX.out.2
    have HO5:=ae (show OA w.heap.size (.slice (some ⟨g,0,none⟩) (2*k+2) cap) (aad (t3s (P.take k))++[x.l,x.r]) w8 from
     ⟨xs++[.int .i64 x.l.head,.slice x.pa x.l.args.length x.ca,.int .i64 x.r.head,.slice x.pb x.r.args.length x.cb],by rw[aK,HLN.out];exact hown8,(aal.append (show aal (· <w.heap.size) wr [x.l,x.r] [.int .i64 x.l.head,.slice x.pa x.l.args.length x.ca,.int .i64 x.r.head,.slice x.pb x.r.args.length x.cb] from⟨hxl.lw,rfl,⟨_,_,rfl,aao.2 hxl.la⟩,hxl.rw,rfl,⟨_,_,rfl,aao.2 hxl.ra⟩,trivial⟩) HRV.out).keep (fun b hb=>hg8.block b hb) (fun _ x=>x)⟩)
    have HB5:=ae (HB.out.trans hg8);clear hal hg8 hxl hown8 hgrow8 hat8 hlt8 hi hz0 hz1 hz2;go_wp2
    go_roundw
    case rel=>exact⟨k+1,by omega,by go_num,by rw[ad9 HX.out.1];exact HO5.out,HB5.out⟩
    case measure=>simp[intOf];omega
  ·obtain rfl:k=P.length:=by omega
   have hO:=HO.out;rw[List.take_length] at hO;obtain⟨p,c',rfl,hR⟩:=hO.args hbz;have HR:=ae hR;clear hR hO;go_wp2;go_ret;exact⟨p,c',rfl,HR.out,HB.out⟩
theorem akL{ts:List T}{k:Nat}{s:T}(h:ts[k]? =some s):T.sizes (ts.take (k+1))=T.sizes (ts.take k)+s.size:=by
 obtain⟨hk,e⟩:=ah.1 h;rw[aI hk,e,T.sizes_append];simp[T.sizes]
def aob(P:List LV):Prop:=P.length<=8/\T.sizes (aad (t3s P))<=80
def akM(P:List LV)(w:World)(e:Ending)(w':World):Prop:=∃b:Bool,e= .returned (.bool b)/\(b=true->aob P)/\Below w.heap.size w w'
def avP(ts:List T)(w:World)(n i:Value)(wr:World):Prop:=∃k m:Nat,k<=ts.length/\i= .int .i64 k/\n= .int .i64 (m:Int)/\m<=161/\(m<=80->T.sizes (ts.take k)<=m)/\Below w.heap.size w wr
theorem apY(P:List LV)(hl:P.length<=2000000000000)(aM:Nat)(a:Option Addr)(c:Nat)(w:World)(hn:aM<=w.heap.size)(hP:aaV aM w P a c):
 Calls Tryz.prog 25 #[.slice a P.length c] w (akM P w):=by
 have CT:=ae (aoa P hl aM a c w hn hP);clear hP;go_enter Tryz.func25,Tryz.ntmps25
 go_wp2_with fail
 refine CT.out.mono ?_;rintro e w2 ⟨p,c2,rfl,hA,hb⟩;have HB0:=ae hb;obtain⟨ts,hts⟩:∃ts,aad (t3s P)=ts:=⟨_,rfl⟩;have HTS:=ae hts;rw[hts] at hA ⊢;clear hb hts CT;have hlc:ts.length<=c2/\c2<=maxLen:=⟨hA.1,hA.2.1⟩;unfold maxLen at hlc;obtain⟨hl1,hl2⟩:=hlc;have HA:=ae hA;clear hA;go_wp2
 go_loopw [3,5] (fun n i wr=>avP ts w2 n i wr) (fun _ i _=>ts.length-(intOf i).toNat)
 case atStart=>exact⟨0,0,Nat.zero_le _,rfl,rfl,by omega,by simp[T.sizes],ag _ _⟩
 case round=>
  obtain⟨k,m,hk,rfl,rfl,hm,adn,hB⟩:=hrel;have HB:=ae hB;have HALL:=ae adn;have hbz:=hB.size;clear hB adn;by_cases hlt:k<ts.length
  ·have hk0:(0:Int)<=(k:Int):=aw _;have hk1:(k:Int)<(ts.length:Int):=by omega
   by_cases hm60:m<=80
   ·have hmi:(m:Int)<=80:=by omega
    obtain⟨b,o,s,a',c',rfl,hbn,hs,hswf,hc1,hc2,hA'⟩:=(HA.out.below HB.out).elem (i:=k) hlt;have hbw:b<wr.heap.size:=by omega
    have CN:=ae (aoH s.size s (af _) 80 w2.heap.size a' c' wr (by omega) (by omega) hA');have HS:=ae hs;clear hs hswf hA'
    go_wp2_with fail
    refine CN.out.mono ?_;rintro e w3 ⟨rfl,hb2⟩;have HB2:=ae (HB.out.trans (hb2.mono hbz));obtain⟨q,hq⟩:∃q,min s.size (80+1)=q:=⟨_,rfl⟩;rw[hq];have hq1:q<=81:=by omega
    have HQ:=ae hq;clear hb2 hq;go_wp2
    go_roundw
    case rel=>
     refine⟨k+1,m+q,by omega,by go_num,by go_num,by omega,fun hle=> ?_,HB2.out⟩;rw[akL HS.out];have:=HALL.out hm60;have:=HQ.out;omega
    case measure=>simp[intOf];omega
   ·have hmi:¬((m:Int)<=80):=by omega
    have HR:=ae (HB0.out.trans (HB.out.mono HB0.out.size));go_wp2;go_ret;exact⟨false,by first|rfl|(simp<;>omega),(fun h=>by cases h),HR.out⟩
  ·obtain rfl:k=ts.length:=by omega
   have HR:=ae (HB0.out.trans (HB.out.mono HB0.out.size));by_cases hm60:m<=80
   ·have hmi:(m:Int)<=80:=by omega
    go_wp2;go_ret;refine⟨decide ((P.length:Int)<=8),rfl,fun h=> ?_,HR.out⟩;have h8:P.length<=8:=by have:=of_decide_eq_true h;omega
    have:=HALL.out hm60;rw[List.take_length] at this;exact⟨h8,by rw[HTS.out];omega⟩
   ·have hmi:¬((m:Int)<=80):=by omega
    go_wp2;go_ret;exact⟨false,by first|rfl|(simp<;>omega),(fun h=>by cases h),HR.out⟩
theorem air(g:Sg)(P:List LV)(hl:P.length<=2000000000000)(aM:Nat)(ga:Option Addr)(gc:Nat)(a:Option Addr)(c:Nat)(w:World)(hn:aM<=w.heap.size)(hG:aaX aM w g ga gc)(hP:aaV aM w P a c):
 Calls Tryz.prog 7 #[.slice ga g.length gc,.slice a P.length c] w (akM P w):=by
 have HP:=ae (hP.mono hn);have CG:=ae (asf g aM ga gc w hn hG);clear hG hP;go_enter Tryz.func7,Tryz.ntmps7
 go_wp2_with fail
 refine CG.out.mono ?_;rintro e w2 ⟨b,rfl,hb⟩;have HB2:=ae hb;clear hb CG;cases b with
 |false=>
  go_wp2;go_ret;exact⟨false,rfl,(fun h=>by cases h),HB2.out⟩
 |true=>
  go_wp2_with fail
  refine(apY P hl w.heap.size a c w2 HB2.out.size (HP.out.below HB2.out)).mono ?_;rintro e w3 ⟨b,rfl,hf,hb⟩;have HB3:=ae (HB2.out.trans (hb.mono HB2.out.size));have HF:=ae hf;clear hb hf;go_wp2;go_ret;exact⟨b,rfl,HF.out,HB3.out⟩
def am2(D:List Gp)(n:Nat)(k:Int)(w:World)(e:Ending)(w':World):Prop:=∃(G:List GV) (p:Option Addr) (c:Nat),gps G=D/\(p=none->c=0)/\e= .returned (.tuple #[.slice p G.length c,.int .i64 (n:Int),.int .i64 k])/\ahl w'.heap.size w' G p c/\Below w.heap.size w w'
def asg:Prop:=∀(g:Sg) (P:List LV) (how:Int),aob P->∀(aM:Nat) (ga:Option Addr) (gc:Nat) (a:Option Addr) (c:Nat) (w:World),aM<=w.heap.size->(Lit.int .i64 how).wf=true->aaX aM w g ga gc->aaV aM w P a c->
 Calls Tryz.prog 8 #[.slice ga g.length gc,.slice a P.length c,.int .i64 how] w (am2 (eqG g (t3s P) how) (eqN g (t3s P) how) (seE g (t3s P) how) w)
def ash:Prop:=∀(g:Sg) (P:List LV) (how:Int),aob P->∀(aM:Nat) (ga:Option Addr) (gc:Nat) (a:Option Addr) (c:Nat) (w:World),aM<=w.heap.size->(Lit.int .i64 how).wf=true->aaX aM w g ga gc->aaV aM w P a c->
 Calls Tryz.prog 12 #[.slice ga g.length gc,.slice a P.length c,.int .i64 how] w (am2 (faG g (t3s P) how) (faN g (t3s P) how) (seE g (t3s P) how) w)
theorem acj{G:List GV}{D:List Gp}(h:gps G=D):G.length=D.length:=by rw[←h,adO]
theorem aob.sz{P:List LV}(h:aob P):∀x∈P,x.sz:=fun x hx=>by
 have h2:∀t∈aad (t3s P),t.size<=80:=fun t ht=>aE (apw ht) h.2
 have:∀t,t=x.l\/t=x.r->t∈aad (t3s P):=fun t ht=>by
  unfold aad;rw[List.mem_flatten];refine⟨[x.l,x.r],List.mem_map.2 ⟨x.t3,List.mem_map.2 ⟨x,hx,rfl⟩,rfl⟩,by simpa using ht⟩
 have h3:=h2 _ (this _ (.inl rfl));have h4:=h2 _ (this _ (.inr rfl));exact⟨by omega,by omega⟩
end Go.Proofs.YtabfapijgfjflaaGreat
