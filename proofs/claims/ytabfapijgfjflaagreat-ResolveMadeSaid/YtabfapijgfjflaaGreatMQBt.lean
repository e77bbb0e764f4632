import Derived.Test.YtabfapijgfjflaaGreatMQBp
import Derived.Test.YtabfapijgfjflaaGreatMUme
import Derived.Test.YtabfapijgfjflaaGreatMQBr
import Derived.Test.YtabfapijgfjflaaGreatMQBs
import Derived.Test.YtabfapijgfjflaaGreatMAl
set_option linter.unusedVariables false
set_option linter.unusedSimpArgs false
namespace Go.Proofs.YtabfapijgfjflaaGreat
open Go.RowKit
theorem adV{f:Int->T}{v:Int}(h0:0<=v):(vt v).sub f=f v:=by
 rw[T.sub_neg (by rw[aaq];omega),aaq,show-1-(-1-v)=v from by omega]
theorem abG.swap{a b:T}{s:Sb}(h:abG (fun θ=>a.sub θ=b.sub θ) s):abG (fun θ=>b.sub θ=a.sub θ) s:=
 ⟨h.rise,h.low,h.good,h.free,h.orient,h.unif.symm,fun θ hθ=>h.most θ hθ.symm⟩
theorem ar2{a:T}(hg:bad (T.subs 1 a)=false){v:Int}(h0:0<=v)(hn: -1-v∉a.heads):∃θ:Int->T,(vt v).sub θ=a.sub θ:=by
 refine⟨fun u=>if u=v then a else vt u,?_⟩;rw[adV h0,if_pos rfl];refine(sub_self _ _ a (af _) hg fun g hg2 hneg=> ?_).symm;rw[if_neg];intro e;exact hn (by rw[←e,show-1-(-1-g)=g from by omega];exact hg2)
theorem al3{f:Int->T}:∀(N:Nat) (t:T),t.size<=N->bad (T.subs 1 t)=false->∀h∈t.heads,h<0->(f (-1-h)).size<=(t.sub f).size:=by
 intro N
 induction N with
 |zero=>intro t ht;have:=T.size_pos t;omega
 |succ N ih=>
  intro t ht hg h hh hneg;rw[T.heads_eq] at hh;by_cases q:t.head<0
  ·rw[aaZ hg q] at hh;simp at hh;subst hh;rw[T.sub_neg q];exact af _
  ·rcases List.mem_cons.1 hh with rfl|hh
   ·exact absurd hneg q
   ·simp only[List.mem_flatten,List.mem_map] at hh;obtain⟨_,⟨x,hx,rfl⟩,hh⟩:=hh;obtain⟨i,hi⟩:=au hx;have h1:=ih x (by have:=ab0 hx;omega) (aaA hg hi) h hh hneg
    have h2:x.sub f∈(t.sub f).args:=by
     rw[T.sub_pos q];exact List.mem_map.2 ⟨x,hx,rfl⟩
    have:=ab0 h2;omega
theorem amU{a:T}(hg:bad (T.subs 1 a)=false){v:Int}(h0:0<=v)(hh: -1-v∈a.heads)(hn:a.head≠ -1-v)(θ:Int->T):(vt v).sub θ≠a.sub θ:=by
 rw[adV h0];intro e;rw[T.heads_eq] at hh
 have q:¬a.head<0:=fun q=>by
  rw[aaZ hg q] at hh;simp at hh;exact hn hh.symm
 rcases List.mem_cons.1 hh with hh|hh
 ·exact hn hh.symm
 ·simp only[List.mem_flatten,List.mem_map] at hh;obtain⟨_,⟨x,hx,rfl⟩,hh⟩:=hh;obtain⟨i,hi⟩:=au hx;have h1:=al3 (f:=θ) _ x (af _) (aaA hg hi) _ hh (by omega);rw[show-1-(-1-v)=v from by omega,e] at h1
  have h2:x.sub θ∈(a.sub θ).args:=by
   rw[T.sub_pos q];exact List.mem_map.2 ⟨x,hx,rfl⟩
  have:=ab0 h2;omega
def adk(x y:T)(s:Sb)(b:Bool)(k:Int):Prop:=
 ((x.check≠0\/y.check≠0)/\s=[]/\b=false/\k=1)\/
 ((x.check=0/\y.check=0)/\(((∀θ:Int->T,x.sub θ≠y.sub θ)/\s=[]/\b=false/\k=0)\/
   ∃m,abG (fun θ=>x.sub θ=y.sub θ) m/\((ae5 m≠0/\s=[]/\b=false/\k=ae5 m)\/(ae5 m=0/\s=m/\b=true/\k=0))))
theorem al4{s:Sb}(h:ae5 s=0):∀p∈s,p.2.size<=1000000000000:=by
 induction s with
 |nil=>simp
 |cons q s ih=>
  rw[ae5] at h;split at h
  ·rename_i hc;intro p hp
   rcases List.mem_cons.1 hp with rfl|hp
   ·exact aE (aam hc).1 (by omega)
   ·exact ih h p hp
  ·rename_i hc;exact absurd h hc
theorem amV{x y:T}{w w':World}{e:Ending}(h:amm x y w e w'):∃(s:Sb) (b:Bool) (k:Int) (a:Option Addr) (c:Nat),e= .returned (.tuple #[.slice a s.length c,.bool b,.int .i64 k])/\abH (fun b=>w.heap.size<=b/\b<w'.heap.size) w' s a c/\Below w.heap.size w w'/\adk x y s b k:=by
 rcases h with⟨hb,a,c,h1,h2,h3⟩|⟨hg,⟨hn,a,c,h1,h2,h3⟩|⟨s,hM,⟨he,a,c,h1,h2,h3⟩|⟨he,a,c,h1,h2,h3⟩⟩⟩
 ·exact⟨_,_,_,a,c,h1,h2,h3,.inl ⟨hb,rfl,rfl,rfl⟩⟩
 ·exact⟨_,_,_,a,c,h1,h2,h3,.inr ⟨hg,.inl ⟨hn,rfl,rfl,rfl⟩⟩⟩
 ·exact⟨_,_,_,a,c,h1,h2,h3,.inr ⟨hg,.inr ⟨s,hM,.inl ⟨he,rfl,rfl,rfl⟩⟩⟩⟩
 ·exact⟨_,_,_,a,c,h1,h2,h3,.inr ⟨hg,.inr ⟨s,hM,.inr ⟨he,rfl,rfl,rfl⟩⟩⟩⟩
theorem adk.fn{x y:T}{s s':Sb}{b b':Bool}{k k':Int}(h:adk x y s b k)(h':adk x y s' b' k'):s=s'/\b=b'/\k=k':=by
 rcases h with⟨hb,rfl,rfl,rfl⟩|⟨hg,h⟩
 ·rcases h' with⟨_,rfl,rfl,rfl⟩|⟨hg,_⟩
  ·exact⟨rfl,rfl,rfl⟩
  ·rcases hb with hb|hb
   ·exact absurd hg.1 hb
   ·exact absurd hg.2 hb
 ·rcases h' with⟨hb,rfl,rfl,rfl⟩|⟨_,h'⟩
  ·rcases hb with hb|hb
   ·exact absurd hg.1 hb
   ·exact absurd hg.2 hb
  ·rcases h with⟨hn,rfl,rfl,rfl⟩|⟨m,hM,h⟩
   ·rcases h' with⟨_,rfl,rfl,rfl⟩|⟨m,hM,_⟩
    ·exact⟨rfl,rfl,rfl⟩
    ·exact absurd hM.unif (hn _)
   ·rcases h' with⟨hn,rfl,rfl,rfl⟩|⟨m',hM',h'⟩
    ·exact absurd hM.unif (hn _)
    ·obtain rfl:=hM.unique hM'
     rcases h with⟨he,rfl,rfl,rfl⟩|⟨he,rfl,rfl,rfl⟩<;>rcases h' with⟨he',rfl,rfl,rfl⟩|⟨he',rfl,rfl,rfl⟩
     ·exact⟨rfl,rfl,rfl⟩
     ·exact absurd he' he
     ·exact absurd he he'
     ·exact⟨rfl,rfl,rfl⟩
theorem adk.swap{x y:T}{s:Sb}{b:Bool}{k:Int}(h:adk x y s b k):adk y x s b k:=by
 rcases h with⟨hb,h⟩|⟨hg,⟨hn,h⟩|⟨m,hM,h⟩⟩
 ·exact .inl ⟨hb.symm,h⟩
 ·exact .inr ⟨hg.symm,.inl ⟨fun θ e=>hn θ e.symm,h⟩⟩
 ·exact .inr ⟨hg.symm,.inr ⟨m,hM.swap,h⟩⟩
theorem adk.good{x y:T}{s:Sb}{b:Bool}{k:Int}(h:adk x y s b k)(hk:k≠1):x.check=0/\y.check=0:=by
 rcases h with⟨_,_,_,rfl⟩|⟨hg,_⟩
 ·exact absurd rfl hk
 ·exact hg
theorem afR{v:Int}(h0:0<=v)(h1:v<=255):(vt v).check=0:=by
 have ho:okB (-1-v) 0=true:=by
  unfold okB;rw[if_pos (by omega),Bool.and_eq_true];exact⟨rfl,decide_eq_true (by omega)⟩
 have hb:bad (T.subs 1 (vt v))=false:=by
  show(!okB (-1-v) 0||false)=false;rw[ho];rfl
 unfold T.check;rw[hb];simp[vt,T.size,T.sizes,T.depth,T.depths]
theorem adk.var{a:T}{v:Int}{s:Sb}{b:Bool}{k:Int}(h:adk (vt v) a s b k)(h0:0<=v)(h1:v<=255)(ha:a.check=0)(hk:k=0):b=(decide (a.head= -1-v)|| !decide (v∈varsOf (T.subs 1 a))):=by
 have hg:=(aam ha).2.2
 have hm:v∈varsOf (T.subs 1 a)↔ -1-v∈a.heads:=by
  rw[ai3];constructor
  ·rintro⟨g,hg,_,rfl⟩;rw[show-1-(-1-g)=g from by omega];exact hg
  ·intro h;exact⟨_,h,by omega,by omega⟩
 rcases h with⟨hb,_⟩|⟨_,⟨hn,_,rfl,_⟩|⟨m,hM,⟨he,_,_,rfl⟩|⟨he,_,rfl,_⟩⟩⟩
 ·rcases hb with hb|hb
  ·exact absurd (afR h0 h1) hb
  ·exact absurd ha hb
 ·symm
  rw[Bool.or_eq_false_iff];constructor
  ·rw[decide_eq_false_iff_not];intro e;refine hn (ofS []) ?_;rw[show a=vt v from ?_];obtain⟨hd,ar⟩:=a;have:=aaZ hg (by rw[e];omega);simp only[T.head,T.args] at e this;subst e this;rfl
  ·rw[Bool.not_eq_false',decide_eq_true_iff,hm];by_cases q: -1-v∈a.heads
   ·exact q
   ·obtain⟨θ,e⟩:=ar2 hg h0 q;exact absurd e (hn θ)
 ·exact absurd hk he
 ·symm
  rw[Bool.or_eq_true];by_cases q:a.head= -1-v
  ·exact .inl (by simpa using q)
  ·refine .inr ?_;rw[Bool.not_eq_true',decide_eq_false_iff_not,hm];intro hh;exact amU hg h0 hh q _ hM.unif
mutual
theorem aez(f:Int->T)(hf:∀v,0<=v->v<=255->bad (T.subs 1 (f v))=false)(t:T)(hg:bad (T.subs 1 t)=false):bad (T.subs 1 (t.sub f))=false:=by
 match t with
 | .node h ts=>
   by_cases q:h<0
   ·rw[show(T.node h ts).sub f=f (-1-h) from T.sub_neg (t:= .node h ts) q];have hk:okB h ts.length=true:=aaI hg;simp only[okB,if_pos q,Bool.and_eq_true,decide_eq_true_iff] at hk;exact hf _ (by omega) hk.2
   ·rw[show(T.node h ts).sub f= .node h (ts.map (T.sub f)) from T.sub_pos (t:= .node h ts) q];have h3:=akF f hf ts fun s hs=>by obtain⟨i,hi⟩:=au hs;exact aaA (t:= .node h ts) hg hi
    have hok:okB h ts.length=true:=aaI hg;rw[af8,T.head_node,T.args_node,List.length_map,h3,hok];rfl
theorem akF(f:Int->T)(hf:∀v,0<=v->v<=255->bad (T.subs 1 (f v))=false)(ts:List T)(hg:∀s∈ts,bad (T.subs 1 s)=false):bad (T.subss 2 (ts.map (T.sub f)))=false:=by
 match ts with
 |[]=>rfl
 |t::ts=>
  have a3:=aez f hf t (hg t (by simp));have b3:=akF f hf ts (fun s hs=>hg s (by simp[hs]));rw[List.map_cons,T.subss];unfold bad at a3 b3 ⊢;rw[List.any_append];have a3':=a3;rw[show(T.subs 1 (T.sub f t)).any (fun x=> !okB x.2.head x.2.args.length)=(T.subs 2 (T.sub f t)).any (fun x=> !okB x.2.head x.2.args.length) from acz 1 2 _] at a3';rw[a3',b3];rfl
end
theorem afS{s u:Sb}:∀{L:List Int} {p:Int×T},p∈aci s u L↔p.1∈L/\p.2=aea s u p.1/\p.2.head≠ -1-p.1
 |[],p=>by simp[aci]
 |v::vs,p=>by
  rw[aci];have ih:=afS (s:=s) (u:=u) (L:=vs) (p:=p);split
  ·rename_i h;rw[ih];constructor
   ·rintro⟨h1,h2⟩;exact⟨aH _ h1,h2⟩
   ·rintro⟨h1,h2,h3⟩
    rcases List.mem_cons.1 h1 with e|h1
    ·rw[h2,e] at h3;exact absurd h h3
    ·exact⟨h1,h2,h3⟩
  ·rename_i h;rw[List.mem_cons,ih];constructor
   ·rintro(rfl|⟨h1,h2⟩)
    ·exact⟨List.mem_cons_self,rfl,h⟩
    ·exact⟨aH _ h1,h2⟩
   ·rintro⟨h1,h2,h3⟩
    rcases List.mem_cons.1 h1 with e|h1
    ·exact .inl (Prod.ext e (by rw[h2,e]))
    ·exact .inr ⟨h1,h2,h3⟩
theorem akG{s u:Sb}:∀{L:List Int},L.Pairwise (· < ·)->((aci s u L).map Prod.fst).Pairwise (· < ·)
 |[],_=>by simp[aci]
 |v::vs,h=>by
  rw[List.pairwise_cons] at h;have ih:=akG (s:=s) (u:=u) h.2;rw[aci];split
  ·exact ih
  ·rw[List.map_cons,List.pairwise_cons];refine⟨fun z hz=> ?_,ih⟩;obtain⟨p,hp,rfl⟩:=List.mem_map.1 hz;exact h.1 _ (afS.1 hp).1
def ES(s:Sb)(θ:Int->T):Prop:=∀p∈s,θ p.1=p.2.sub θ
def EL(l:List (T×T))(θ:Int->T):Prop:=∀p∈l,p.1.sub θ=p.2.sub θ
def Tri(s:Sb):Prop:=abG (ES s) s
theorem Tri.nil:Tri []:=⟨by simp,by simp,by simp,by simp,by simp,by simp[ES],fun θ _ v h0 _=>by
 rw[show ofS [] v=vt v from rfl,adV h0]⟩
theorem Tri.free'{s:Sb}(h:Tri s){p:Int×T}(hp:p∈s){g:Int}(hg:g∈p.2.heads)(hn:g<0):bnd s (-1-g)=false:=by
 obtain⟨q,hq,rfl⟩:=List.mem_map.1 hg;exact h.free p hp q hq hn
theorem avI{s:Sb}(h1:(s.map Prod.fst).Pairwise (· < ·))(h2:∀p∈s,0<=p.1/\p.1<=255)(h3:∀p∈s,bad (T.subs 1 p.2)=false)(h4:∀p∈s,∀g∈p.2.heads,g<0->bnd s (-1-g)=false)(h5:∀p∈s,p.2.head<0-> -1-p.2.head<p.1):Tri s:=by
 refine⟨h1,h2,h3,fun p hp q hq hn=>h4 p hp _ (List.mem_map.2 ⟨q,hq,rfl⟩) hn,h5,fun p hp=> ?_,fun θ hθ v h0 _=> ?_⟩
 ·rw[afh h1 hp];exact(sub_self _ _ p.2 (af _) (h3 p hp) (fun g hg hn=>aax (h4 p hp g hg hn))).symm
 ·cases hb:bnd s v
  ·rw[aax hb,adV h0]
  ·exact hθ _ (aa9 h1 hb)
theorem Tri.good_of{s:Sb}(h:Tri s){v:Int}(h0:0<=v)(h1:v<=255):bad (T.subs 1 (ofS s v))=false:=by
 cases hb:bnd s v
 ·rw[aax hb];exact(aam (afR h0 h1)).2.2
 ·exact h.good _ (aa9 h.rise hb)
theorem Tri.put_free{s:Sb}(h:Tri s){t:T}(hg:bad (T.subs 1 t)=false){g:Int}(hm:g∈(t.sub (ofS s)).heads)(hn:g<0):bnd s (-1-g)=false:=by
 obtain⟨k,_,hk,hm⟩:=(akm (ofS s) t.size t (af _) hg g hn).1 hm;cases hb:bnd s (-1-k)
 ·rw[aax hb] at hm;have:g=k:=by rw[T.heads_eq] at hm;simpa[vt,T.head,T.args,show-1-(-1-k)=k from by omega] using hm
  rw[this];exact hb
 ·exact h.free' (aa9 h.rise hb) hm hn
theorem Tri.solve_put{s:Sb}(h:Tri s){θ:Int->T}(hθ:ES s θ){t:T}(hg:bad (T.subs 1 t)=false):t.sub θ=(t.sub (ofS s)).sub θ:=by
 rw[T.sub_sub];exact sub_congr t.size t (af _) hg fun v h0 h1=>h.most θ hθ v h0 h1
theorem ar3{s:Sb}(hT:Tri s){v:Int}{b:T}(h0:0<=v)(h1:v<=255)(hv:bnd s v=false)(hb:bad (T.subs 1 b)=false)(hbv:∀h∈b.heads,h<0->bnd s (-1-h)=false)(hn: -1-v∉b.heads)(ho:b.head<0-> -1-b.head<v):
 Tri (aci s [(v,b)] agU)/\(∀θ,ES (aci s [(v,b)] agU) θ↔ES s θ/\θ v=b.sub θ)/\(∀z,0<=z->z<=255->ofS (aci s [(v,b)] agU) z=(ofS s z).sub (ofS [(v,b)]))/\∀z,bnd (aci s [(v,b)] agU) z=(bnd s z||decide (z=v)):=by
 have hbh:b.head∈b.heads:=by rw[T.heads_eq];simp
 have hu:∀z,ofS [(v,b)] z=if v=z then b else vt z:=fun z=>rfl
 have huv:ofS [(v,b)] v=b:=by rw[hu,if_pos rfl]
 have hun:∀z,z≠v->ofS [(v,b)] z=vt z:=fun z hz=>by rw[hu,if_neg (fun e=>hz e.symm)]
 have kv:aea s [(v,b)] v=b:=by unfold aea;rw[aax hv,adV h0,huv]
 have k1:∀z,0<=z->bnd s z=false->z≠v->aea s [(v,b)] z=vt z:=fun z hz hb hne=>by unfold aea;rw[aax hb,adV hz,hun z hne]
 have k3:∀z,bnd s z=true->(aea s [(v,b)] z).head≠ -1-z/\((aea s [(v,b)] z).head<0-> -1-(aea s [(v,b)] z).head<z):=fun z hz=>by
  have hm:=aa9 hT.rise hz;have hgd:=hT.good _ hm;have hor:=hT.orient _ hm;have hlo:=hT.low _ hm;dsimp only at hgd hor hlo;unfold aea;by_cases q:(ofS s z).head<0
  ·rw[T.sub_neg q];have:=hor q;by_cases e: -1-(ofS s z).head=v
   ·rw[e,huv];exact⟨fun e2=>by have:=ho (by omega);omega,fun e2=>by have:=ho e2;omega⟩
   ·rw[hun _ e];exact⟨by rw[aaq];omega,fun _=>by rw[aaq];omega⟩
  ·rw[T.sub_pos q,T.head_node];exact⟨by omega,fun e=>absurd e q⟩
 have hmem:∀p:Int×T,p∈aci s [(v,b)] agU↔(bnd s p.1=true\/p.1=v)/\p.2=aea s [(v,b)] p.1:=fun p=>by
  rw[afS,ajo];constructor
  ·rintro⟨⟨c0,c1⟩,c2,c3⟩;refine⟨?_,c2⟩;cases hz:bnd s p.1
   ·right
    apply Classical.byContradiction;intro hne;rw[c2,k1 p.1 c0 hz hne,aaq] at c3;exact c3 rfl
   ·exact .inl rfl
  ·rintro⟨hz,c2⟩
   rcases hz with hz|hz
   ·have hlo:=hT.low _ (aa9 hT.rise hz);exact⟨hlo,c2,by rw[c2];exact(k3 p.1 hz).1⟩
   ·exact⟨by omega,c2,by rw[c2,hz,kv];exact fun e=>hn (e▸hbh)⟩
 have hbnd:∀z,bnd (aci s [(v,b)] agU) z=(bnd s z||decide (z=v)):=fun z=>by
  rw[Bool.eq_iff_iff,aec,Bool.or_eq_true,decide_eq_true_iff,List.mem_map];constructor
  ·rintro⟨p,hp,rfl⟩;exact((hmem p).1 hp).1
  ·intro hz;exact⟨(z,aea s [(v,b)] z),(hmem _).2 ⟨hz,rfl⟩,rfl⟩
 have hugood:∀z,0<=z->z<=255->bad (T.subs 1 (ofS [(v,b)] z))=false:=fun z c0 c1=>by
  by_cases e:z=v
  ·rw[e,huv];exact hb
  ·rw[hun z e];exact(aam (afR c0 c1)).2.2
 have hlow:∀p∈aci s [(v,b)] agU,0<=p.1/\p.1<=255:=fun p hp=>ajo.1 (afS.1 hp).1;have hrise:=akG (s:=s) (u:=[(v,b)]) al2
 have htri:Tri (aci s [(v,b)] agU):=by
  refine avI hrise hlow (fun p hp=> ?_) (fun p hp g hg hgn=> ?_) (fun p hp hpn=> ?_)
  ·have hl:=hlow p hp;rw[((hmem p).1 hp).2];exact aez _ hugood _ (hT.good_of hl.1 hl.2)
  ·have hl:=hlow p hp;rw[((hmem p).1 hp).2] at hg;obtain⟨k,hk,hkn,hgk⟩:=(akm (ofS [(v,b)]) _ _ (af _) (hT.good_of hl.1 hl.2) g hgn).1 hg
   have hkb:bnd s (-1-k)=false:=by
    cases hz:bnd s p.1
    ·rw[aax hz] at hk;have:k= -1-p.1:=by rw[T.heads_eq] at hk;simpa[vt,T.head,T.args] using hk
     rw[this,show-1-(-1-p.1)=p.1 from by omega];exact hz
    ·exact hT.free' (aa9 hT.rise hz) hk hkn
   rw[hbnd,Bool.or_eq_false_iff,decide_eq_false_iff_not];by_cases e: -1-k=v
   ·rw[e,huv] at hgk;exact⟨hbv g hgk hgn,fun e2=>hn (by rw[←e2,show-1-(-1-g)=g from by omega];exact hgk)⟩
   ·rw[hun _ e] at hgk;have:g=k:=by rw[T.heads_eq] at hgk;simpa[vt,T.head,T.args,show-1-(-1-k)=k from by omega] using hgk
    rw[this];exact⟨hkb,e⟩
  ·obtain⟨hz,e⟩:=(hmem p).1 hp;rw[e] at hpn ⊢
   rcases hz with hz|hz
   ·exact(k3 p.1 hz).2 hpn
   ·rw[hz,kv] at hpn ⊢;exact ho hpn
 have hof:∀z,0<=z->z<=255->ofS (aci s [(v,b)] agU) z=(ofS s z).sub (ofS [(v,b)]):=fun z c0 c1=>by
  cases hz:bnd (aci s [(v,b)] agU) z
  ·rw[aax hz];rw[hbnd,Bool.or_eq_false_iff,decide_eq_false_iff_not] at hz;exact(k1 z c0 hz.1 hz.2).symm
  ·exact((hmem _).1 (aa9 hrise hz)).2
 have huθ:∀θ:Int->T,θ v=b.sub θ->∀z,0<=z->(ofS [(v,b)] z).sub θ=θ z:=fun θ e z c0=>by
  by_cases ez:z=v
  ·rw[ez,huv,e]
  ·rw[hun z ez,adV c0]
 refine⟨htri,fun θ=>⟨fun hθ=> ?_,fun⟨hθ,e⟩ p hp=> ?_⟩,hof,hbnd⟩
 ·have hv2:θ v=b.sub θ:=by
   have:=htri.most θ hθ v h0 h1;rw[hof v h0 h1] at this;have k:=kv;unfold aea at k;rw[k] at this;exact this
  refine⟨fun p hp=> ?_,hv2⟩;have hl:=hT.low p hp;have:=htri.most θ hθ p.1 hl.1 hl.2;rw[hof p.1 hl.1 hl.2,T.sub_sub,afh hT.rise hp] at this;rw[this];exact sub_congr _ p.2 (af _) (hT.good p hp) fun z c0 _=>huθ θ hv2 z c0
 ·have hl:=hlow p hp;rw[((hmem p).1 hp).2];unfold aea;rw[T.sub_sub,sub_congr _ _ (af _) (hT.good_of hl.1 hl.2) (g:=θ) fun z c0 _=>huθ θ e z c0];exact hT.most θ hθ p.1 hl.1 hl.2
def prt(x y:T):List T:=(T.subs 1 x).map Prod.snd++(T.subs 1 y).map Prod.snd
theorem aim(x y:T):(prt x y).length=x.size+y.size:=by simp[prt,T.subs_length]
mutual
theorem agV(l l':Nat):(t:T)->∀q∈T.subs l t,∀s∈q.2.args,∃q'∈T.subs l t,q'.2=s
 | .node h ts=>by
   intro q hq s hs;simp only[T.subs,List.mem_cons] at hq ⊢
   rcases hq with rfl|hq
   ·obtain⟨q',h1,h2⟩:=aio (l+1) ts s hs;exact⟨q',.inr h1,h2⟩
   ·obtain⟨q',h1,h2⟩:=ain (l+1) l' ts q hq s hs;exact⟨q',.inr h1,h2⟩
theorem ain(l l':Nat):(ts:List T)->∀q∈T.subss l ts,∀s∈q.2.args,∃q'∈T.subss l ts,q'.2=s
 |[]=>by intro q hq;simp[T.subss] at hq
 |t::ts=>by
  intro q hq s hs;simp only[T.subss,aG] at hq ⊢
  rcases hq with hq|hq
  ·obtain⟨q',h1,h2⟩:=agV l l' t q hq s hs;exact⟨q',.inl h1,h2⟩
  ·obtain⟨q',h1,h2⟩:=ain l l' ts q hq s hs;exact⟨q',.inr h1,h2⟩
theorem aio(l:Nat):(ts:List T)->∀s∈ts,∃q'∈T.subss l ts,q'.2=s
 |[]=>by intro s hs;simp at hs
 |t::ts=>by
  intro s hs;simp only[T.subss,aG]
  rcases List.mem_cons.1 hs with rfl|hs
  ·exact⟨(l,s),.inl (by cases s;simp[T.subs]),rfl⟩
  ·obtain⟨q',h1,h2⟩:=aio l ts s hs;exact⟨q',.inr h1,h2⟩
end
theorem ar4(x y:T):x∈prt x y:=by
 simp only[prt,aG,List.mem_map];exact .inl ⟨(1,x),by cases x;simp[T.subs],rfl⟩
theorem apH(x y:T):y∈prt x y:=by
 simp only[prt,aG,List.mem_map];exact .inr ⟨(1,y),by cases y;simp[T.subs],rfl⟩
theorem apI{x y t s:T}(h:t∈prt x y)(hs:s∈t.args):s∈prt x y:=by
 simp only[prt,aG,List.mem_map] at h ⊢
 rcases h with⟨q,hq,rfl⟩|⟨q,hq,rfl⟩
 ·exact .inl (agV 1 1 x q hq s hs)
 ·exact .inr (agV 1 1 y q hq s hs)
def amW:List T->Nat
 |[]=>0
 |n::F=>n.args.length+amW F
theorem agW(A B:List T):amW (A++B)=amW A+amW B:=by
 induction A with
 |nil=>simp[amW]
 |cons a A ih=>simp only[List.cons_append,amW,ih];omega
mutual
theorem agX(l:Nat):(t:T)->amW ((T.subs l t).map Prod.snd)+1=t.size
 | .node h ts=>by
   have:=aip (l+1) ts;simp only[T.subs,List.map_cons,amW,T.args,T.size];omega
theorem aip(l:Nat):(ts:List T)->amW ((T.subss l ts).map Prod.snd)+ts.length=T.sizes ts
 |[]=>by simp[T.subss,amW,T.sizes]
 |t::ts=>by
  have h1:=agX l t;have h2:=aip l ts;simp only[T.subss,List.map_append,agW,T.sizes,List.length_cons];omega
end
theorem ar5(x y:T):amW (prt x y)<=x.size+y.size:=by
 have h1:=agX 1 x;have h2:=agX 1 y;unfold prt;rw[agW];omega
def gP(σ:Int->T)(S:Nat):List T->Nat
 |[]=>1
 |n::F=>(if(n.sub σ).size<=S then max 1 n.args.length else 1)*gP σ S F
def gN(σ:Int->T)(S:Nat):List T->Nat
 |[]=>0
 |n::F=>(if(n.sub σ).size<=S then 1 else 0)+gN σ S F
theorem ate(σ:Int->T)(S:Nat)(F:List T):1<=gP σ S F:=by
 induction F with
 |nil=>simp[gP]
 |cons n F ih=>
  rw[gP];refine Nat.mul_le_mul (m₁:=1) (n₁:=1) ?_ ih;split
  ·exact Nat.le_max_left _ _
  ·exact af _
theorem apJ(σ:Int->T){S S':Nat}(h:S<=S')(F:List T):gP σ S F<=gP σ S' F:=by
 induction F with
 |nil=>exact af _
 |cons n F ih=>
  rw[gP,gP];refine Nat.mul_le_mul ?_ ih;split
  ·rw[if_pos (by omega)];exact af _
  ·split
   ·exact Nat.le_max_left _ _
   ·exact af _
theorem apM(σ:Int->T){S S':Nat}(h:S<=S')(F:List T):gN σ S F<=gN σ S' F:=by
 induction F with
 |nil=>exact af _
 |cons n F ih=>
  rw[gN,gN];split
  ·rw[if_pos (by omega)];omega
  ·omega
theorem auh(σ:Int->T){S S':Nat}{F:List T}{n:T}(hn:n∈F)(h1:S<(n.sub σ).size)(h2:(n.sub σ).size<=S'):max 1 n.args.length*gP σ S F<=gP σ S' F/\gN σ S F+1<=gN σ S' F:=by
 induction F with
 |nil=>simp at hn
 |cons m F ih=>
  rw[gP,gP,gN,gN];by_cases e:m=n
  ·subst e;rw[if_neg (by omega),if_pos h2,if_neg (by omega),if_pos h2,Nat.one_mul];have:=apM σ (show S<=S' by omega) F;exact⟨Nat.mul_le_mul_left _ (apJ σ (by omega) F),by omega⟩
  ·have hm:n∈F:=by
    rcases List.mem_cons.1 hn with h|h
    ·exact absurd h.symm e
    ·exact h
   obtain⟨i1,i2⟩:=ih hm;constructor
   ·rw[Nat.mul_left_comm];refine Nat.mul_le_mul ?_ i1;split
    ·rw[if_pos (by omega)];exact af _
    ·split
     ·exact Nat.le_max_left _ _
     ·exact af _
   ·split
    ·rw[if_pos (by omega)];omega
    ·omega
theorem avJ:∀d:Nat,(max 1 d) ^ 3<=3 ^ d
 |0=>by decide
 |1=>by decide
 |2=>by decide
 |3=>by decide
 |d+4=>by
  have ih:=avJ (d+3);rw[Nat.max_eq_right (by omega)] at ih ⊢;have e:3 ^ (d+4)=3*3 ^ (d+3):=by rw[Nat.pow_succ];omega
  rw[e];refine aE ?_ (Nat.mul_le_mul_left 3 ih)
  have h3:(d+4) ^ 3=d*d*d+12*(d*d)+48*d+64:=by
   have h1:(d+4)*(d+4)=d*d+8*d+16:=by simp only[Nat.add_mul,Nat.mul_add];omega
   rw[Nat.pow_succ,Nat.pow_two,h1];simp only[Nat.add_mul,Nat.mul_add];rw[Nat.mul_assoc 8 d d];omega
  have h4:(d+3) ^ 3=d*d*d+9*(d*d)+27*d+27:=by
   have h1:(d+3)*(d+3)=d*d+6*d+9:=by simp only[Nat.add_mul,Nat.mul_add];omega
   rw[Nat.pow_succ,Nat.pow_two,h1];simp only[Nat.add_mul,Nat.mul_add];rw[Nat.mul_assoc 6 d d];omega
  rw[h3,h4];omega
theorem aui(σ:Int->T)(S:Nat)(F:List T):gP σ S F ^ 3<=3 ^ amW F:=by
 induction F with
 |nil=>simp[gP,amW]
 |cons n F ih=>
  rw[gP,amW,Nat.mul_pow,Nat.pow_add];refine Nat.mul_le_mul ?_ ih;split
  ·exact avJ _
  ·rw[Nat.one_pow];exact Nat.pow_pos (by omega)
theorem awT(σ:Int->T)(S:Nat)(F:List T):gN σ S F<=F.length:=by
 induction F with
 |nil=>simp[gN]
 |cons n F ih=>
  rw[gN,List.length_cons];split<;>omega
theorem akH{ts:List T}{m:Nat}(h:∀t∈ts,t.size<=m):T.sizes ts<=ts.length*m:=by
 induction ts with
 |nil=>simp[T.sizes]
 |cons t ts ih=>
  have h1:=h t (by simp);have h2:=ih fun s hs=>h s (by simp[hs]);rw[T.sizes,List.length_cons,Nat.succ_mul];omega
def Org(F:List T)(σ:Int->T):Prop:=∀t∈F,(t.sub σ).size=1\/∃n∈F,¬n.head<0/\n.sub σ=t.sub σ
theorem awU{F:List T}{σ:Int->T}(hcl:∀t∈F,∀s∈t.args,s∈F)(ho:Org F σ):∀(S:Nat) (t:T),t∈F->(t.sub σ).size<=S->(t.sub σ).size<=(gN σ (t.sub σ).size F+1)*gP σ (t.sub σ).size F:=by
 intro S
 induction S with
 |zero=>intro t _ h;have:=T.size_pos (t.sub σ);omega
 |succ S ih=>
  intro t ht hS
  rcases ho t ht with h1|⟨n,hn,hp,e⟩
  ·have hpp:=ate σ (t.sub σ).size F;have:=Nat.mul_le_mul (show 1<=gN σ (t.sub σ).size F+1 by omega) hpp;omega
  ·rw[←e] at hS ⊢;have hsz:(n.sub σ).size=1+T.sizes (n.args.map (T.sub σ)):=by rw[T.sub_pos hp,T.size]
   obtain⟨Z,hZ⟩:∃Z,(n.sub σ).size=Z:=⟨_,rfl⟩;rw[hZ] at hS hsz ⊢;have hst:=auh σ (S:=Z-1) (S':=Z) hn (by omega) (by omega)
   have hargs:∀u∈n.args.map (T.sub σ),u.size<=(gN σ (Z-1) F+1)*gP σ (Z-1) F:=fun u hu=>by
    obtain⟨s,hs,rfl⟩:=List.mem_map.1 hu
    have hlt:(s.sub σ).size<=Z-1:=by
     obtain⟨i,hi⟩:=au hu;have:=T.size_lt_of_mem hi;omega
    have:=ih s (hcl n hn s hs) (by omega);refine aE this (Nat.mul_le_mul ?_ (apJ σ hlt F));have:=apM σ hlt F;omega
   have ajT:=akH hargs;rw[List.length_map] at ajT
   have h5:n.args.length*((gN σ (Z-1) F+1)*gP σ (Z-1) F)<=gN σ Z F*gP σ Z F:=by
    rw[Nat.mul_left_comm];refine Nat.mul_le_mul hst.2 (aE (Nat.mul_le_mul_right _ (Nat.le_max_right 1 _)) hst.1)
   have hpp:=ate σ Z F;rw[Nat.add_mul,Nat.one_mul];omega
theorem an6{x y:T}(h60:x.size+y.size<=60){σ:Int->T}(ho:Org (prt x y) σ){t:T}(ht:t∈prt x y):(t.sub σ).size<=300000000000:=by
 have h:=awU (fun t ht s hs=>apI ht hs) ho _ t ht (af _);have hN:=awT σ (t.sub σ).size (prt x y);rw[aim] at hN;have hC:=aui σ (t.sub σ).size (prt x y);have hD:=ar5 x y;have hC2:gP σ (t.sub σ).size (prt x y) ^ 3<=3 ^ 60:=aE hC (Nat.pow_le_pow_right (by omega) (by omega))
 have hP:gP σ (t.sub σ).size (prt x y)<=4000000000:=by
  apply Classical.byContradiction;intro hno;have:=Nat.pow_le_pow_left (show 4000000000<=gP σ (t.sub σ).size (prt x y) by omega) 3;have h3:(3:Nat) ^ 60<4000000000 ^ 3:=by decide
  omega
 have:=Nat.mul_le_mul (show gN σ (t.sub σ).size (prt x y)+1<=61 by omega) hP;omega
inductive SS:T->T->Prop
 |arg {a b:T}:¬b.head<0->a∈b.args->SS a b
 |step {a b c:T}:SS a c->¬b.head<0->c∈b.args->SS a b
theorem SS.size{a b:T}(h:SS a b):a.size<b.size:=by
 have harg:∀{a b:T},a∈b.args->a.size<b.size:=fun{a b} h=>by
  obtain⟨i,hi⟩:=au h;have:=T.size_lt_of_mem hi;have:=T.size_eq b;omega
 induction h with
 |arg _ h=>exact harg h
 |step _ _ h ih=>have:=harg h;omega
theorem SS.trans{a b c:T}(h:SS a b)(h':SS b c):SS a c:=by
 induction h' with
 |arg h1 h2=>exact .step h h1 h2
 |step _ h1 h2 ih=>exact .step ih h1 h2
theorem SS.sub{a b:T}(h:SS a b)(f:Int->T):SS (a.sub f) (b.sub f):=by
 have hh:∀{b:T},¬b.head<0->¬(b.sub f).head<0:=fun{b} h=>by rw[T.sub_pos h];exact h
 have ha:∀{a b:T},¬b.head<0->a∈b.args->a.sub f∈(b.sub f).args:=fun{a b} h h'=>by rw[T.sub_pos h,T.args_node];exact List.mem_map.2 ⟨a,h',rfl⟩
 induction h with
 |arg h1 h2=>exact .arg (hh h1) (ha h1 h2)
 |step _ h1 h2 ih=>exact .step ih (hh h1) (ha h1 h2)
inductive anr (P:List T) (σ:Int->T):List (T×T)->List T->Prop
 |base {l:List (T×T)}:l.length<=1->anr P σ l []
 |frame {ps l:List (T×T)} {t:T} {F:List T}:anr P σ l F->t∈P->ps.length<=8->(∀p∈ps,SS (p.1.sub σ) (t.sub σ))->(∀n∈F,SS (t.sub σ) (n.sub σ))->anr P σ (ps++l) (t::F)
theorem anr.pop{P:List T}{σ:Int->T}{p:T×T}{l L:List (T×T)}{F:List T}(h:anr P σ L F)(e:L=p::l):∃F',anr P σ l F'/\∀n∈F',SS (p.1.sub σ) (n.sub σ):=by
 induction h with
 |base h=>subst e;exact⟨[],.base (by simp at h;simp[h]),by simp⟩
 |@frame ps l' t F h ht hl hps hF ih=>
  cases ps with
  |nil=>exact ih e
  |cons q ps=>
   rw[List.cons_append] at e;injection e with e1 e2
   subst e1 e2;refine⟨t::F,.frame h ht (by simp at hl;omega) (fun p hp=>hps p (by simp[hp])) hF,fun n hn=> ?_⟩
   rcases List.mem_cons.1 hn with rfl|hn
   ·exact hps q (by simp)
   ·exact(hps q (by simp)).trans (hF n hn)
theorem anr.length{P:List T}{σ:Int->T}{l:List (T×T)}{F:List T}(h:anr P σ l F):l.length<=8*F.length+1/\(∀n∈F,n∈P)/\F.Nodup:=by
 induction h with
 |base h=>exact⟨by simpa using h,by simp,List.nodup_nil⟩
 |@frame ps l t F h ht hl hps hF ih=>
  refine⟨by rw[aK,List.length_cons];omega,fun n hn=> ?_,List.nodup_cons.2 ⟨fun hm=> ?_,ih.2.2⟩⟩
  ·rcases List.mem_cons.1 hn with rfl|hn
   ·exact ht
   ·exact ih.2.1 n hn
  ·have:=(hF t hm).size;omega
theorem afx:∀{F P:List T},F.Nodup->(∀n∈F,n∈P)->F.length<=P.length
 |[],_,_,_=>Nat.zero_le _
 |t::F,P,hn,hs=>by
  obtain⟨A,B,e⟩:=List.append_of_mem (hs t (by simp));rw[List.nodup_cons] at hn
  have:=afx (F:=F) (P:=A++B) hn.2 fun n hm=>by
   have:=hs n (by simp[hm]);rw[e,aG,List.mem_cons] at this;rw[aG]
   rcases this with h|rfl|h
   ·exact .inl h
   ·exact absurd hm hn.1
   ·exact .inr h
  rw[e];simp only[aK,List.length_cons] at this ⊢;omega
theorem anr.short{x y:T}(h60:x.size+y.size<=60){σ:Int->T}{l:List (T×T)}{F:List T}(h:anr (prt x y) σ l F):l.length<=481:=by
 obtain⟨h1,h2,h3⟩:=h.length;have:=afx h3 h2;rw[aim] at this;omega
theorem anr.more{P:List T}{σ σ' u:Int->T}{l:List (T×T)}{F:List T}(hP:∀t∈P,t.sub σ'=(t.sub σ).sub u)(h:anr P σ l F)(hl:∀p∈l,p.1.sub σ'=(p.1.sub σ).sub u):anr P σ' l F:=by
 induction h with
 |base h=>exact .base h
 |@frame ps l t F h ht hl8 hps hF ih=>
  refine .frame (ih fun p hp=>hl p (by simp[hp])) ht hl8 (fun p hp=> ?_) (fun n hn=> ?_)
  ·rw[hl p (by simp[hp]),hP t ht];exact(hps p hp).sub u
  ·rw[hP t ht,hP n (h.length.2.1 n hn)];exact(hF n hn).sub u
mutual
theorem agY(l:Nat):(t:T)->bad (T.subs l t)=false->∀q∈T.subs l t,bad (T.subs 1 q.2)=false
 | .node h ts=>by
   intro hb q hq;simp only[T.subs,List.mem_cons] at hq
   rcases hq with rfl|hq
   ·rw[acz 1 l];exact hb
   ·simp only[bad,T.subs,List.any_cons,Bool.or_eq_false_iff] at hb;exact aiq (l+1) ts (by simpa only[bad] using hb.2) q hq
theorem aiq(l:Nat):(ts:List T)->bad (T.subss l ts)=false->∀q∈T.subss l ts,bad (T.subs 1 q.2)=false
 |[]=>by intro _ q hq;simp[T.subss] at hq
 |t::ts=>by
  intro hb q hq;simp only[bad,T.subss,List.any_append,Bool.or_eq_false_iff] at hb;simp only[T.subss,aG] at hq
  rcases hq with hq|hq
  ·exact agY l t (by simpa only[bad] using hb.1) q hq
  ·exact aiq l ts (by simpa only[bad] using hb.2) q hq
end
theorem aco{x y:T}(hx:bad (T.subs 1 x)=false)(hy:bad (T.subs 1 y)=false){t:T}(h:t∈prt x y):bad (T.subs 1 t)=false:=by
 simp only[prt,aG,List.mem_map] at h
 rcases h with⟨q,hq,rfl⟩|⟨q,hq,rfl⟩
 ·exact agY 1 x hx q hq
 ·exact agY 1 y hy q hq
structure RI (x y:T) (s:Sb) (l:List (T×T)) (F:List T):Prop where
 tri:Tri s
 eqv:∀θ:Int->T,x.sub θ=y.sub θ↔ES s θ/\EL l θ
 good:∀p∈l,bad (T.subs 1 p.1)=false/\bad (T.subs 1 p.2)=false
 part:∀p∈l,(∃n∈prt x y,n.sub (ofS s)=p.1.sub (ofS s))/\∃n∈prt x y,n.sub (ofS s)=p.2.sub (ofS s)
 bnds:∀z,0<=z->z<=255->bnd s z=true->(ofS s z).head<0\/∃n∈prt x y,¬n.head<0/\n.sub (ofS s)=ofS s z
 stk:anr (prt x y) (ofS s) l F
theorem RI.start{x y:T}(hx:bad (T.subs 1 x)=false)(hy:bad (T.subs 1 y)=false):RI x y [] [(x,y)] []:=
 ⟨Tri.nil,fun θ=>by simp[ES,EL],by simp[hx,hy],fun p hp=>by
  obtain rfl:p=(x,y):=by simpa using hp
  exact⟨⟨x,ar4 x y,rfl⟩,⟨y,apH x y,rfl⟩⟩,by simp[bnd],.base (by simp)⟩
section
variable {x y:T} {s:Sb} {l:List (T×T)} {F:List T}
theorem aaT{t:T}(hg:bad (T.subs 1 t)=false)(hn:t.head<0):0<= -1-t.head/\ -1-t.head<=255/\t=vt (-1-t.head):=by
 have:=aaI hg;simp only[okB,if_pos hn,Bool.and_eq_true,decide_eq_true_iff] at this;refine⟨by omega,this.2,?_⟩;have ha:=aaZ hg hn;rw[←T.eta t,ha,vt];simp only[T.head_node,T.node.injEq,and_true];omega
theorem RI.fun_part(h:RI x y s l F)(hx:bad (T.subs 1 x)=false)(hy:bad (T.subs 1 y)=false){n:T}(hn:n∈prt x y)(hf:¬(n.sub (ofS s)).head<0):∃n'∈prt x y,¬n'.head<0/\n'.sub (ofS s)=n.sub (ofS s):=by
 by_cases hv:n.head<0
 ·obtain⟨r0,r1,e⟩:=aaT (aco hx hy hn) hv;rw[T.sub_neg hv] at hf ⊢;cases hb:bnd s (-1-n.head)
  ·rw[aax hb,aaq] at hf;omega
  ·rcases h.bnds _ r0 r1 hb with h1|⟨n',h1,h2,h3⟩
   ·exact absurd h1 hf
   ·exact⟨n',h1,h2,h3⟩
 ·exact⟨n,hn,hv,rfl⟩
theorem RI.org(h:RI x y s l F)(hx:bad (T.subs 1 x)=false)(hy:bad (T.subs 1 y)=false):Org (prt x y) (ofS s):=fun t ht=>by
 by_cases hv:t.head<0
 ·obtain⟨r0,r1,e⟩:=aaT (aco hx hy ht) hv;by_cases hf:(t.sub (ofS s)).head<0
  ·left
   have hg:bad (T.subs 1 (t.sub (ofS s)))=false:=aez _ (fun v a b=>h.tri.good_of a b) t (aco hx hy ht);have:=(aaT hg hf).2.2;rw[this];simp[vt,T.size,T.sizes]
  ·right
   exact h.fun_part hx hy ht hf
 ·exact .inr ⟨t,ht,hv,rfl⟩
theorem RI.small(h:RI x y s l F)(hx:bad (T.subs 1 x)=false)(hy:bad (T.subs 1 y)=false)(h60:x.size+y.size<=60){n:T}(hn:n∈prt x y):(n.sub (ofS s)).size<=300000000000:=an6 h60 (h.org hx hy) hn
mutual
theorem aed(f:Int->T):(t:T)->bad (T.subs 1 t)=false->t.size<=(t.sub f).size
 | .node h ts=>by
   intro hg;by_cases q:h<0
   ·have:=aaZ hg q;simp only[T.args_node] at this;subst this;have:=T.size_pos ((T.node h []).sub f);simp only[T.size,T.sizes];omega
   ·rw[T.sub_pos (t:= .node h ts) q];have:=afy f ts (fun s hs=>by obtain⟨i,hi⟩:=au hs;exact aaA (t:= .node h ts) hg hi);simp only[T.size,T.args_node,T.head_node];omega
theorem afy(f:Int->T):(ts:List T)->(∀t∈ts,bad (T.subs 1 t)=false)->T.sizes ts<=T.sizes (ts.map (T.sub f))
 |[]=>by simp[T.sizes]
 |t::ts=>by
  intro h;have h1:=aed f t (h t (by simp));have h2:=afy f ts (fun s hs=>h s (by simp[hs]));simp only[List.map_cons,T.sizes];omega
end
variable {p:T×T}
theorem RI.head_good(h:RI x y s (p::l) F):bad (T.subs 1 (p.1.sub (ofS s)))=false/\bad (T.subs 1 (p.2.sub (ofS s)))=false:=by
 have hg:=h.good p (by simp);exact⟨aez _ (fun v a b=>h.tri.good_of a b) _ hg.1,aez _ (fun v a b=>h.tri.good_of a b) _ hg.2⟩
theorem RI.head_eq(h:RI x y s (p::l) F){θ:Int->T}(hθ:ES s θ):p.1.sub θ=p.2.sub θ↔(p.1.sub (ofS s)).sub θ=(p.2.sub (ofS s)).sub θ:=by
 have hg:=h.good p (by simp);rw[←h.tri.solve_put hθ hg.1,←h.tri.solve_put hθ hg.2]
theorem ae6{q:T×T}{θ:Int->T}:EL (q::l) θ↔q.1.sub θ=q.2.sub θ/\EL l θ:=by simp[EL]
theorem RI.same(h:RI x y s (p::l) F)(he:p.1.sub (ofS s)=p.2.sub (ofS s)):∃F',RI x y s l F':=by
 obtain⟨F',hF,_⟩:=h.stk.pop rfl;refine⟨F',h.tri,fun θ=> ?_,fun q hq=>h.good q (by simp[hq]),fun q hq=>h.part q (by simp[hq]),h.bnds,hF⟩;rw[h.eqv θ,ae6];constructor
 ·rintro⟨a,_,b⟩;exact⟨a,b⟩
 ·rintro⟨a,b⟩;exact⟨a,(h.head_eq a).2 (by rw[he]),b⟩
theorem RI.clash(h:RI x y s (p::l) F)(h1:¬(p.1.sub (ofS s)).head<0)(h2:¬(p.2.sub (ofS s)).head<0)(hne:(p.1.sub (ofS s)).head≠(p.2.sub (ofS s)).head\/(p.1.sub (ofS s)).args.length≠(p.2.sub (ofS s)).args.length)(θ:Int->T):x.sub θ≠y.sub θ:=fun e=>by
 obtain⟨a,b⟩:=(h.eqv θ).1 e;have e2:=(h.head_eq a).1 (ae6.1 b).1;rw[T.sub_pos h1,T.sub_pos h2] at e2;simp only[T.node.injEq] at e2
 rcases hne with hne|hne
 ·exact hne e2.1
 ·have:=congrArg List.length e2.2;simp at this;exact hne this
theorem RI.occurs(h:RI x y s (p::l) F){a b:T}(hab:a=p.1.sub (ofS s)/\b=p.2.sub (ofS s)\/a=p.2.sub (ofS s)/\b=p.1.sub (ofS s))(ha:a.head<0)(hne:a≠b)(hin:a.head∈b.heads)(θ:Int->T):x.sub θ≠y.sub θ:=fun e=>by
 obtain⟨q,r⟩:=(h.eqv θ).1 e;have e2:=(h.head_eq q).1 (ae6.1 r).1;have hg:=h.head_good
 have hgab:bad (T.subs 1 a)=false/\bad (T.subs 1 b)=false:=by
  rcases hab with⟨rfl,rfl⟩|⟨rfl,rfl⟩
  ·exact hg
  ·exact⟨hg.2,hg.1⟩
 have e3:a.sub θ=b.sub θ:=by
  rcases hab with⟨rfl,rfl⟩|⟨rfl,rfl⟩
  ·exact e2
  ·exact e2.symm
 obtain⟨r0,r1,ev⟩:=aaT hgab.1 ha;have hah: -1-(-1-a.head)=a.head:=by omega
 refine amU hgab.2 r0 (by rw[hah];exact hin) (fun eh=> ?_) θ (by rw[←ev];exact e3);have hb:b.head<0:=by omega
 obtain⟨_,_,ev2⟩:=aaT hgab.2 hb;exact hne (by rw[ev,ev2,eh,hah])
theorem RI.args(h:RI x y s (p::l) F)(hx:bad (T.subs 1 x)=false)(hy:bad (T.subs 1 y)=false)(h1:¬(p.1.sub (ofS s)).head<0)(h2:¬(p.2.sub (ofS s)).head<0)(hh:(p.1.sub (ofS s)).head=(p.2.sub (ofS s)).head)(hl:(p.1.sub (ofS s)).args.length=(p.2.sub (ofS s)).args.length):
 ∃F',RI x y s ((p.1.sub (ofS s)).args.zip (p.2.sub (ofS s)).args++l) F':=by
 obtain⟨F',hF,hSS⟩:=h.stk.pop rfl;obtain⟨hg1,hg2⟩:=h.head_good;obtain⟨⟨n1,hn1,en1⟩,n2,hn2,en2⟩:=h.part p (by simp);obtain⟨m1,hm1,hf1,em1⟩:=h.fun_part hx hy hn1 (by rw[en1];exact h1);obtain⟨m2,hm2,hf2,em2⟩:=h.fun_part hx hy hn2 (by rw[en2];exact h2);rw[en1] at em1;rw[en2] at em2;have hpf:∀{t:T},bad (T.subs 1 t)=false->∀g∈(t.sub (ofS s)).heads,g<0->bnd s (-1-g)=false:=fun{t} hg g hm hn=>h.tri.put_free hg hm hn;have hgd:=h.good p (by simp)
 have hself:∀{a b:T},bad (T.subs 1 a)=false->b∈(a.sub (ofS s)).args->bad (T.subs 1 (a.sub (ofS s)))=false->b.sub (ofS s)=b/\bad (T.subs 1 b)=false:=fun{a b} hga hb hgp=>by
  obtain⟨i,hi⟩:=au hb;have hgb:=aaA hgp hi;refine⟨sub_self _ _ b (af _) hgb (fun g hm hn=>aax (hpf hga g ?_ hn)),hgb⟩;rw[T.heads_eq,List.mem_cons]
  right
  simp only[List.mem_flatten,List.mem_map];exact⟨_,⟨b,hb,rfl⟩,hm⟩
 have hzip:∀q∈(p.1.sub (ofS s)).args.zip (p.2.sub (ofS s)).args,q.1∈(p.1.sub (ofS s)).args/\q.2∈(p.2.sub (ofS s)).args:=fun q hq=>⟨(List.of_mem_zip hq).1,(List.of_mem_zip hq).2⟩
 have hnarg:∀{m b t:T},m∈prt x y->¬m.head<0->m.sub (ofS s)=t->b∈t.args->∃n∈prt x y,n.sub (ofS s)=b:=fun{m b t} hm hf e hb=>by
  rw[←e,T.sub_pos hf,T.args_node,List.mem_map] at hb;obtain⟨n,hn,e2⟩:=hb;exact⟨n,apI hm hn,e2⟩
 refine⟨m1::F',h.tri,fun θ=> ?_,fun q hq=> ?_,fun q hq=> ?_,h.bnds,.frame hF hm1 ?_ (fun q hq=> ?_) (fun n hn=> ?_)⟩
 ·rw[h.eqv θ,ae6]
  have hz:∀q:ES s θ,(p.1.sub θ=p.2.sub θ↔EL ((p.1.sub (ofS s)).args.zip (p.2.sub (ofS s)).args) θ):=fun q=>by
   rw[h.head_eq q,T.sub_pos h1,T.sub_pos h2];simp only[T.node.injEq,hh,true_and]
   have hlist:∀(as_ bs:List T),as_.length=bs.length->(as_.map (T.sub θ)=bs.map (T.sub θ)↔EL (as_.zip bs) θ):=by
    intro as_
    induction as_ with
    |nil=>intro bs hb;obtain rfl:bs=[]:=aC hb.symm;simp[EL]
    |cons a as_ ih=>
     intro bs hb
     rcases bs with _|⟨b,bs⟩
     ·simp at hb
     ·rw[List.zip_cons_cons,ae6,List.map_cons,List.map_cons,List.cons.injEq,ih bs (by simpa using hb)]
   exact hlist _ _ hl
  constructor
  ·rintro⟨a,b,c⟩;refine⟨a,fun q hq=> ?_⟩
   rcases aG.1 hq with hq|hq
   ·exact(hz a).1 b q hq
   ·exact c q hq
  ·rintro⟨a,b⟩;exact⟨a,(hz a).2 (fun q hq=>b q (List.mem_append_left _ hq)),fun q hq=>b q (List.mem_append_right _ hq)⟩
 ·rcases aG.1 hq with hq|hq
  ·obtain⟨a,b⟩:=hzip q hq;exact⟨(hself hgd.1 a hg1).2,(hself hgd.2 b hg2).2⟩
  ·exact h.good q (by simp[hq])
 ·rcases aG.1 hq with hq|hq
  ·obtain⟨a,b⟩:=hzip q hq;rw[(hself hgd.1 a hg1).1,(hself hgd.2 b hg2).1];exact⟨hnarg hm1 hf1 em1 a,hnarg hm2 hf2 em2 b⟩
  ·exact h.part q (by simp[hq])
 ·rw[List.length_zip];have:=aaI hg1
  have h8:(p.1.sub (ofS s)).args.length<=8:=by
   simp only[okB,if_neg h1,Bool.and_eq_true,decide_eq_true_iff] at this;exact this.2
  omega
 ·obtain⟨a,b⟩:=hzip q hq;rw[(hself hgd.1 a hg1).1,em1];exact .arg h1 a
 ·rw[em1];exact hSS n hn
theorem RI.bind(h:RI x y s (p::l) F)(hx:bad (T.subs 1 x)=false)(hy:bad (T.subs 1 y)=false){a b:T}(hab:a=p.1.sub (ofS s)/\b=p.2.sub (ofS s)\/a=p.2.sub (ofS s)/\b=p.1.sub (ofS s))(ha:a.head<0)(hin:a.head∉b.heads)(ho:b.head<0->a.head<b.head):
 ∃F',RI x y (aci s [(-1-a.head,b)] agU) l F'/\(∀z,bnd (aci s [(-1-a.head,b)] agU) z=(bnd s z||decide (z= -1-a.head)))/\bnd s (-1-a.head)=false/\0<= -1-a.head/\ -1-a.head<=255:=by
 have hg:=h.head_good;have hgd:=h.good p (by simp)
 have hgab:bad (T.subs 1 a)=false/\bad (T.subs 1 b)=false:=by
  rcases hab with⟨rfl,rfl⟩|⟨rfl,rfl⟩
  ·exact hg
  ·exact⟨hg.2,hg.1⟩
 obtain⟨r0,r1,ev⟩:=aaT hgab.1 ha;have hah: -1-(-1-a.head)=a.head:=by omega
 have hfree:∀{c:T},(c=a\/c=b)->∀g∈c.heads,g<0->bnd s (-1-g)=false:=fun{c} hc g hm hn=>by
  have:c=p.1.sub (ofS s)\/c=p.2.sub (ofS s):=by
   rcases hab with⟨rfl,rfl⟩|⟨rfl,rfl⟩<;>rcases hc with rfl|rfl<;>simp
  rcases this with rfl|rfl
  ·exact h.tri.put_free hgd.1 hm hn
  ·exact h.tri.put_free hgd.2 hm hn
 have hv:bnd s (-1-a.head)=false:=hfree (.inl rfl) a.head (by rw[T.heads_eq];simp) ha;obtain⟨t1,t2,t3,t4⟩:=ar3 h.tri r0 r1 hv hgab.2 (fun g hm hn=>hfree (.inr rfl) g hm hn) (by rw[hah];exact hin) (fun hb=>by have:=ho hb;omega);generalize hs':aci s [(-1-a.head,b)] agU=s' at t1 t2 t3 t4 ⊢;have hu:∀z,ofS [(-1-a.head,b)] z=if-1-a.head=z then b else vt z:=fun z=>rfl
 have hsub:∀{t:T},bad (T.subs 1 t)=false->t.sub (ofS s')=(t.sub (ofS s)).sub (ofS [(-1-a.head,b)]):=fun{t} hgt=>by
  rw[T.sub_sub];exact sub_congr _ t (af _) hgt (fun v c0 c1=>t3 v c0 c1)
 have hbself:b.sub (ofS [(-1-a.head,b)])=b:=sub_self _ _ b (af _) hgab.2 (fun g hm hn=>by
  rw[hu,if_neg (fun e=>hin (by have:g=a.head:=by omega
                               rw[←this];exact hm))])
 have hbn:∃n∈prt x y,n.sub (ofS s)=b:=by
  obtain⟨p1,p2⟩:=h.part p (by simp)
  rcases hab with⟨rfl,rfl⟩|⟨rfl,rfl⟩
  ·exact p2
  ·exact p1
 have hbb:ofS s' (-1-a.head)=b:=by rw[t3 _ r0 r1,aax hv,adV r0,hu,if_pos rfl]
 have hbfun:b.head<0\/∃n∈prt x y,¬n.head<0/\n.sub (ofS s')=b:=by
  by_cases hb:b.head<0
  ·exact .inl hb
  ·right
   obtain⟨n,hn,en⟩:=hbn;obtain⟨n',hn',hf,en'⟩:=h.fun_part hx hy hn (by rw[en];exact hb);exact⟨n',hn',hf,by rw[hsub (aco hx hy hn'),en',en,hbself]⟩
 obtain⟨F',hF,_⟩:=h.stk.pop rfl;refine⟨F',⟨t1,fun θ=> ?_,fun q hq=>h.good q (by simp[hq]),fun q hq=> ?_,fun z z0 z1 hz=> ?_,hF.more (fun t ht=>hsub (aco hx hy ht)) (fun q hq=>hsub (h.good q (by simp[hq])).1)⟩,t4,hv,r0,r1⟩
 ·rw[h.eqv θ,ae6,t2]
  have hz:∀q:ES s θ,(p.1.sub θ=p.2.sub θ↔θ (-1-a.head)=b.sub θ):=fun q=>by
   rw[h.head_eq q];have e1:a.sub θ=θ (-1-a.head):=T.sub_neg ha
   rcases hab with⟨e2,e3⟩|⟨e2,e3⟩
   ·rw[←e2,←e3,e1]
   ·rw[←e2,←e3,e1];exact eq_comm
  constructor
  ·rintro⟨q,r,t⟩;exact⟨⟨q,(hz q).1 r⟩,t⟩
  ·rintro⟨⟨q,r⟩,t⟩;exact⟨q,(hz q).2 r,t⟩
 ·have hgq:=h.good q (by simp[hq]);obtain⟨⟨n1,hn1,e1⟩,n2,hn2,e2⟩:=h.part q (by simp[hq]);exact⟨⟨n1,hn1,by rw[hsub (aco hx hy hn1),hsub hgq.1,e1]⟩,n2,hn2,by rw[hsub (aco hx hy hn2),hsub hgq.2,e2]⟩
 ·rw[t4,Bool.or_eq_true,decide_eq_true_iff] at hz
  rcases hz with hz|rfl
  ·rcases h.bnds z z0 z1 hz with hv1|⟨n,hn,hf,en⟩
   ·rw[t3 z z0 z1];obtain⟨w0,w1,ew⟩:=aaT (h.tri.good_of z0 z1) hv1;rw[ew,adV w0,hu];split
    ·exact hbfun
    ·left;rw[aaq];omega
   ·right
    exact⟨n,hn,hf,by rw[hsub (aco hx hy hn),en,t3 z z0 z1]⟩
  ·rw[hbb];exact hbfun
theorem RI.done(h:RI x y s [] F):abG (fun θ=>x.sub θ=y.sub θ) s:=by
 have he:∀θ:Int->T,x.sub θ=y.sub θ↔ES s θ:=fun θ=>by rw[h.eqv θ];simp[EL]
 have ht:=h.tri;exact⟨ht.rise,ht.low,ht.good,ht.free,ht.orient,(he _).2 ht.unif,fun θ hθ=>ht.most θ ((he θ).1 hθ)⟩
end
def agZ(s:Sb):List Int->Nat
 |[]=>0
 |v::vs=>(if bnd s v then 0 else 1)+agZ s vs
def atf(σ:Int->T):List (T×T)->Nat
 |[]=>0
 |p::l=>(p.1.sub σ).size+atf σ l
theorem amX{s s':Sb}(h:∀z,bnd s z=true->bnd s' z=true):∀vs,agZ s' vs<=agZ s vs
 |[]=>af _
 |v::vs=>by
  have:=amX h vs;rw[agZ,agZ];cases hb:bnd s v
  ·simp only[Bool.false_eq_true,if_false];split<;>omega
  ·rw[h v hb];simpa using this
theorem amY{s s':Sb}(h:∀z,bnd s z=true->bnd s' z=true){z:Int}(h1:bnd s z=false)(h2:bnd s' z=true):∀vs,z∈vs->agZ s' vs<agZ s vs
 |v::vs,hm=>by
  have hle:=amX h vs;rw[agZ,agZ]
  rcases List.mem_cons.1 hm with rfl|hm
  ·rw[h1,h2];simp;omega
  ·have:=amY h h1 h2 vs hm;cases hb:bnd s v
   ·simp only[Bool.false_eq_true,if_false];split<;>omega
   ·rw[h v hb];simpa using this
end Go.Proofs.YtabfapijgfjflaaGreat
