import Derived.RangeFuncNested
import Derived.Deep.LoopGhost
import Derived.WalkKit
import Derived.Lib.Hide
import Derived.RangeFuncLeaves
import Derived.Test.YtabfapijgfjflaaGreatProg
import Derived.BigQuiet
import Derived.Deep.QuietTactic
import Derived.Test.YtabfapijgfjflaaGreatMAl
set_option linter.unusedVariables false
set_option linter.unusedSimpArgs false
namespace Go.Proofs.YtabfapijgfjflaaGreat
open Go.RowKit
inductive T where
 |node:Int->List T->T
def T.head:T->Int
 | .node h _=>h
def T.args:T->List T
 | .node _ ts=>ts
mutual
def T.size:T->Nat
 | .node _ ts=>1+T.sizes ts
def T.sizes:List T->Nat
 |[]=>0
 |t::ts=>t.size+T.sizes ts
end
mutual
def T.subs(l:Nat):T->List (Nat×T)
 | .node h ts=>(l,.node h ts)::T.subss (l+1) ts
def T.subss(l:Nat):List T->List (Nat×T)
 |[]=>[]
 |t::ts=>T.subs l t++T.subss l ts
end
theorem T.eta(t:T):T.node t.head t.args=t:=by cases t;rfl
theorem T.size_eq(t:T):t.size=1+T.sizes t.args:=by cases t;simp[T.size,T.args]
theorem T.size_pos(t:T):0<t.size:=by rw[T.size_eq];omega
theorem T.sizes_append(a b:List T):T.sizes (a++b)=T.sizes a+T.sizes b:=by
 induction a with
 |nil=>simp[T.sizes]
 |cons t ts ih=>simp[T.sizes,ih];omega
theorem T.sizes_ge_length(a:List T):a.length<=T.sizes a:=by
 induction a with
 |nil=>simp
 |cons t ts ih=>simp[T.sizes];have:=T.size_pos t;omega
theorem T.sizes_drop{ts:List T}{i:Nat}{t:T}(h:ts[i]? =some t):T.sizes (ts.drop i)=t.size+T.sizes (ts.drop (i+1)):=by
 obtain⟨hi,e⟩:=ah.1 h;rw[aD hi,e,T.sizes]
theorem T.sizes_take{ts:List T}{i:Nat}{t:T}(h:ts[i]? =some t):T.sizes (ts.take (i+1))=T.sizes (ts.take i)+t.size:=by
 obtain⟨hi,e⟩:=ah.1 h;rw[aI hi,T.sizes_append,e];simp[T.sizes]
theorem T.size_lt_of_mem{ts:List T}{i:Nat}{t:T}(h:ts[i]? =some t):t.size<=T.sizes ts:=by
 have h1:=T.sizes_append (ts.take i) (ts.drop i);rw[List.take_append_drop,T.sizes_drop h] at h1;omega
theorem T.subs_eq(l:Nat)(t:T):T.subs l t=(l,t)::T.subss (l+1) t.args:=by cases t;simp[T.subs,T.args]
theorem T.subss_drop{ts:List T}{i:Nat}{t:T}(l:Nat)(h:ts[i]? =some t):T.subss l (ts.drop i)=T.subs l t++T.subss l (ts.drop (i+1)):=by
 obtain⟨hi,e⟩:=ah.1 h;rw[aD hi,e,T.subss]
mutual
theorem T.subs_length(l:Nat):(t:T)->(T.subs l t).length=t.size
 | .node h ts=>by simp[T.subs,T.size,T.subss_length (l+1) ts];omega
theorem T.subss_length(l:Nat):(ts:List T)->(T.subss l ts).length=T.sizes ts
 |[]=>by simp[T.subss,T.sizes]
 |t::ts=>by simp[T.subss,T.sizes,T.subs_length l t,T.subss_length l ts]
end
mutual
def IsT(aM:Nat)(w:World):T->Nat->Nat->Prop
 | .node h ts,b,o=>(Lit.int .i64 h).wf=true/\w.cell? ⟨b,o,none⟩=some (.int .i64 h)/\∃a c,w.cell? ⟨b,o+1,none⟩=some (.slice a ts.length c)/\ts.length<=c/\c<=maxLen/\
  (ts=[]\/∃b' o',a=some ⟨b',o',none⟩/\b'<aM/\aar aM w ts b' o')
def aar(aM:Nat)(w:World):List T->Nat->Nat->Prop
 |[],_,_=>True
 |t::ts,b,o=>IsT aM w t b o/\aar aM w ts b (o+2)
end
def aab(aM:Nat)(w:World)(ts:List T)(a:Option Addr)(c:Nat):Prop:=
 ts.length<=c/\c<=maxLen/\(ts=[]\/∃b o,a=some ⟨b,o,none⟩/\b<aM/\aar aM w ts b o)
theorem aaO{aM:Nat}{w:World}{t:T}{b o:Nat}:IsT aM w t b o↔(Lit.int .i64 t.head).wf=true/\w.cell? ⟨b,o,none⟩=some (.int .i64 t.head)/\∃a c,w.cell? ⟨b,o+1,none⟩=some (.slice a t.args.length c)/\aab aM w t.args a c:=by
 cases t;simp[IsT,T.head,T.args,aab]
theorem aar.at{aM:Nat}{w:World}{ts:List T}{b o:Nat}(h:aar aM w ts b o){i:Nat}{t:T}(hi:ts[i]? =some t):IsT aM w t b (o+i*2):=by
 induction ts generalizing o i with
 |nil=>simp at hi
 |cons s ts ih=>
  simp only[aar] at h;cases i with
  |zero=>simp at hi;subst hi;exact h.1
  |succ i=>
   have:=ih h.2 (i:=i) (by simpa using hi);rw[show o+(i+1)*2=o+2+i*2 from by omega];exact this
theorem aar.drop{aM:Nat}{w:World}{ts:List T}{b o:Nat}(h:aar aM w ts b o)(i:Nat)(hi:i<=ts.length):aar aM w (ts.drop i) b (o+i*2):=by
 induction ts generalizing o i with
 |nil=>simp[aar]
 |cons s ts ih=>
  cases i with
  |zero=>simpa using h
  |succ i=>
   simp only[aar] at h;have:=ih h.2 i (by simpa using hi);rw[List.drop_succ_cons,show o+(i+1)*2=o+2+i*2 from by omega];exact this
mutual
theorem IsT.keep{aM:Nat}{w w':World}(h:∀b o,b<aM->w.cell? ⟨b,o,none⟩≠none->w'.cell? ⟨b,o,none⟩=w.cell? ⟨b,o,none⟩):
 (t:T)->∀{b o:Nat},(∀o,w.cell? ⟨b,o,none⟩≠none->w'.cell? ⟨b,o,none⟩=w.cell? ⟨b,o,none⟩)->IsT aM w t b o->IsT aM w' t b o
 | .node x ts,b,o,hb,ht=>by
   simp only[IsT] at ht ⊢;obtain⟨h0,h1,a,c,h2,h3,h4,h5⟩:=ht;refine⟨h0,(hb o (by rw[h1];simp)).trans h1,a,c,(hb (o+1) (by rw[h2];simp)).trans h2,h3,h4,?_⟩
   rcases h5 with h5|⟨b',o',h5,h6,h7⟩
   ·exact .inl h5
   ·exact .inr ⟨b',o',h5,h6,aar.keep h ts (fun o=>h b' o h6) h7⟩
theorem aar.keep{aM:Nat}{w w':World}(h:∀b o,b<aM->w.cell? ⟨b,o,none⟩≠none->w'.cell? ⟨b,o,none⟩=w.cell? ⟨b,o,none⟩):
 (ts:List T)->∀{b o:Nat},(∀o,w.cell? ⟨b,o,none⟩≠none->w'.cell? ⟨b,o,none⟩=w.cell? ⟨b,o,none⟩)->aar aM w ts b o->aar aM w' ts b o
 |[],b,o,hb,ht=>by simp[aar]
 |t::ts,b,o,hb,ht=>by
  simp only[aar] at ht ⊢;exact⟨IsT.keep h t hb ht.1,aar.keep h ts hb ht.2⟩
end
mutual
theorem IsT.mono{aM aN:Nat}{w:World}(h:aM<=aN):(t:T)->∀{b o:Nat},IsT aM w t b o->IsT aN w t b o
 | .node x ts,b,o,ht=>by
   simp only[IsT] at ht ⊢;obtain⟨h0,h1,a,c,h2,h3,h4,h5⟩:=ht;refine⟨h0,h1,a,c,h2,h3,h4,?_⟩
   rcases h5 with h5|⟨b',o',h5,h6,h7⟩
   ·exact .inl h5
   ·exact .inr ⟨b',o',h5,by omega,aar.mono h ts h7⟩
theorem aar.mono{aM aN:Nat}{w:World}(h:aM<=aN):(ts:List T)->∀{b o:Nat},aar aM w ts b o->aar aN w ts b o
 |[],b,o,ht=>by simp[aar]
 |t::ts,b,o,ht=>by
  simp only[aar] at ht ⊢;exact⟨IsT.mono h t ht.1,aar.mono h ts ht.2⟩
end
theorem aar.below{aM:Nat}{w w':World}{ts:List T}{b o:Nat}(ht:aar aM w ts b o)(h:Below aM w w')(hb:b<aM):aar aM w' ts b o:=
 aar.keep (fun b o hb _=>h.cell (p:=⟨b,o,none⟩) hb) ts (fun o _=>h.cell (p:=⟨b,o,none⟩) hb) ht
theorem IsT.below{aM:Nat}{w w':World}{t:T}{b o:Nat}(ht:IsT aM w t b o)(h:Below aM w w')(hb:b<aM):IsT aM w' t b o:=
 IsT.keep (fun b o hb _=>h.cell (p:=⟨b,o,none⟩) hb) t (fun o _=>h.cell (p:=⟨b,o,none⟩) hb) ht
theorem aab.below{aM:Nat}{w w':World}{ts:List T}{a:Option Addr}{c:Nat}(ht:aab aM w ts a c)(h:Below aM w w'):aab aM w' ts a c:=by
 obtain⟨h1,h2,h3⟩:=ht;refine⟨h1,h2,?_⟩
 rcases h3 with h3|⟨b,o,h3,h4,h5⟩
 ·exact .inl h3
 ·exact .inr ⟨b,o,h3,h4,h5.below h h4⟩
theorem aab.mono{aM aN:Nat}{w:World}{ts:List T}{a:Option Addr}{c:Nat}(ht:aab aM w ts a c)(h:aM<=aN):aab aN w ts a c:=by
 obtain⟨h1,h2,h3⟩:=ht;refine⟨h1,h2,?_⟩
 rcases h3 with h3|⟨b,o,h3,h4,h5⟩
 ·exact .inl h3
 ·exact .inr ⟨b,o,h3,by omega,h5.mono h⟩
theorem aab.elem{aM:Nat}{w:World}{ts:List T}{a:Option Addr}{c:Nat}(h:aab aM w ts a c){i:Nat}(hi:i<ts.length):
 ∃(b o:Nat) (t:T) (a':Option Addr) (c':Nat),a=some ⟨b,o,none⟩/\b<aM/\ts[i]? =some t/\(Lit.int .i64 t.head).wf=true/\w.cell? ⟨b,o+i*2,none⟩=some (.int .i64 t.head)/\
  w.cell? ⟨b,o+i*2+1,none⟩=some (.slice a' t.args.length c')/\aab aM w t.args a' c':=by
 obtain⟨_,_,h3⟩:=h
 rcases h3 with rfl|⟨b,o,rfl,h4,h5⟩
 ·simp at hi
 ·have ht:=h5.at (ai hi);obtain⟨p0,p1,a',c',p2,p3⟩:=aaO.1 ht;exact⟨b,o,_,a',c',rfl,h4,ai hi,p0,p1,p2,p3⟩
theorem aaG{p:Prop}(h:Hid p):p:=h
theorem anx{p q:Nat->Prop}{k:Nat}(hq:q k)(hk:k<leastOf p):leastOf q<leastOf p:=
 Nat.lt_of_le_of_lt ((leastOf_spec ⟨k,hq⟩).2 k hq) hk
mutual
def aho(ok:Nat->Prop)(w:World):T->Nat->Nat->Prop
 | .node h ts,b,o=>(Lit.int .i64 h).wf=true/\w.cell? ⟨b,o,none⟩=some (.int .i64 h)/\∃a c,w.cell? ⟨b,o+1,none⟩=some (.slice a ts.length c)/\ts.length<=c/\c<=maxLen/\
  (ts=[]\/∃b' o',a=some ⟨b',o',none⟩/\ok b'/\aav ok w ts b' o')
def aav(ok:Nat->Prop)(w:World):List T->Nat->Nat->Prop
 |[],_,_=>True
 |t::ts,b,o=>aho ok w t b o/\aav ok w ts b (o+2)
end
def aaj(ok:Nat->Prop)(w:World)(ts:List T)(a:Option Addr)(c:Nat):Prop:=
 ts.length<=c/\c<=maxLen/\(ts=[]\/∃b o,a=some ⟨b,o,none⟩/\ok b/\aav ok w ts b o)
theorem abO{ok:Nat->Prop}{w:World}{t:T}{b o:Nat}:aho ok w t b o↔(Lit.int .i64 t.head).wf=true/\w.cell? ⟨b,o,none⟩=some (.int .i64 t.head)/\∃a c,w.cell? ⟨b,o+1,none⟩=some (.slice a t.args.length c)/\aaj ok w t.args a c:=by
 cases t;simp[aho,T.head,T.args,aaj]
mutual
theorem aho.keep{ok ok':Nat->Prop}{w w':World}(h:∀b,ok b->w'.heap[b]? =w.heap[b]?)(hm:∀b,ok b->ok' b):(t:T)->∀{b o:Nat},w'.heap[b]? =w.heap[b]? ->aho ok w t b o->aho ok' w' t b o
 | .node x ts,b,o,hb,ht=>by
   simp only[aho] at ht ⊢;obtain⟨h0,h1,a,c,h2,h3,h4,h5⟩:=ht;refine⟨h0,(aq (a:=⟨b,o,none⟩) hb).trans h1,a,c,(aq (a:=⟨b,o+1,none⟩) hb).trans h2,h3,h4,?_⟩
   rcases h5 with h5|⟨b',o',h5,h6,h7⟩
   ·exact .inl h5
   ·exact .inr ⟨b',o',h5,hm _ h6,aav.keep h hm ts (h b' h6) h7⟩
theorem aav.keep{ok ok':Nat->Prop}{w w':World}(h:∀b,ok b->w'.heap[b]? =w.heap[b]?)(hm:∀b,ok b->ok' b):(ts:List T)->∀{b o:Nat},w'.heap[b]? =w.heap[b]? ->aav ok w ts b o->aav ok' w' ts b o
 |[],b,o,hb,ht=>by simp[aav]
 |t::ts,b,o,hb,ht=>by
  simp only[aav] at ht ⊢;exact⟨aho.keep h hm t hb ht.1,aav.keep h hm ts hb ht.2⟩
end
theorem aaj.keep{ok ok':Nat->Prop}{w w':World}{ts:List T}{a:Option Addr}{c:Nat}(ht:aaj ok w ts a c)(h:∀b,ok b->w'.heap[b]? =w.heap[b]?)(hm:∀b,ok b->ok' b):aaj ok' w' ts a c:=by
 obtain⟨h1,h2,h3⟩:=ht;refine⟨h1,h2,?_⟩
 rcases h3 with h3|⟨b,o,h3,h4,h5⟩
 ·exact .inl h3
 ·exact .inr ⟨b,o,h3,hm _ h4,aav.keep h hm ts (h b h4) h5⟩
theorem aaj.mono{ok ok':Nat->Prop}{w:World}{ts:List T}{a:Option Addr}{c:Nat}(ht:aaj ok w ts a c)(hm:∀b,ok b->ok' b):aaj ok' w ts a c:=ht.keep (fun _ _=>rfl) hm
mutual
theorem alp{aM:Nat}{w:World}:(t:T)->∀{b o:Nat},aho (· <aM) w t b o↔IsT aM w t b o
 | .node x ts,b,o=>by
   simp only[aho,IsT];constructor
   ·rintro⟨h0,h1,a,c,h2,h3,h4,h5⟩;exact⟨h0,h1,a,c,h2,h3,h4,h5.imp id fun⟨b',o',h6,h7,h8⟩=>⟨b',o',h6,h7,(aaF ts).1 h8⟩⟩
   ·rintro⟨h0,h1,a,c,h2,h3,h4,h5⟩;exact⟨h0,h1,a,c,h2,h3,h4,h5.imp id fun⟨b',o',h6,h7,h8⟩=>⟨b',o',h6,h7,(aaF ts).2 h8⟩⟩
theorem aaF{aM:Nat}{w:World}:(ts:List T)->∀{b o:Nat},aav (· <aM) w ts b o↔aar aM w ts b o
 |[],b,o=>by simp[aav,aar]
 |t::ts,b,o=>by simp only[aav,aar];rw[alp t,aaF ts]
end
theorem aao{aM:Nat}{w:World}{ts:List T}{a:Option Addr}{c:Nat}:aaj (· <aM) w ts a c↔aab aM w ts a c:=by
 unfold aaj aab;constructor
 ·rintro⟨h1,h2,h3⟩;exact⟨h1,h2,h3.imp id fun⟨b',o',h6,h7,h8⟩=>⟨b',o',h6,h7,(aaF ts).1 h8⟩⟩
 ·rintro⟨h1,h2,h3⟩;exact⟨h1,h2,h3.imp id fun⟨b',o',h6,h7,h8⟩=>⟨b',o',h6,h7,(aaF ts).2 h8⟩⟩
theorem aaj.toArgs{ok:Nat->Prop}{w:World}{ts:List T}{a:Option Addr}{c n:Nat}(h:aaj ok w ts a c)(hm:∀b,ok b->b<n):aab n w ts a c:=aao.1 (h.mono hm)
def aal(ok:Nat->Prop)(w:World):List T->List Value->Prop
 |[],[]=>True
 |t::ts,h::s::xs=>(Lit.int .i64 t.head).wf=true/\h= .int .i64 t.head/\(∃a c,s= .slice a t.args.length c/\aaj ok w t.args a c)/\aal ok w ts xs
 |_,_=>False
theorem aal.keep{ok ok':Nat->Prop}{w w':World}(h:∀b,ok b->w'.heap[b]? =w.heap[b]?)(hm:∀b,ok b->ok' b):∀{ts:List T} {xs:List Value},aal ok w ts xs->aal ok' w' ts xs
 |[],[],_=>trivial
 |t::ts,x::s::xs,⟨h1,h2,⟨a,c,h3,h4⟩,h5⟩=>⟨h1,h2,⟨a,c,h3,h4.keep h hm⟩,aal.keep h hm h5⟩
 |[],_::_,h=>h.elim
 |_::_,[],h=>h.elim
 |_::_,[_],h=>h.elim
theorem aal.snoc{ok:Nat->Prop}{w:World}{t:T}{a:Option Addr}{c:Nat}(h1:(Lit.int .i64 t.head).wf=true)(h4:aaj ok w t.args a c):∀{ts:List T} {xs:List Value},aal ok w ts xs->aal ok w (ts++[t]) (xs++[.int .i64 t.head,.slice a t.args.length c])
 |[],[],_=>⟨h1,rfl,⟨a,c,rfl,h4⟩,trivial⟩
 |_::_,_::_::_,⟨p1,p2,p3,p4⟩=>⟨p1,p2,p3,aal.snoc h1 h4 p4⟩
 |[],_::_,h=>h.elim
 |_::_,[],h=>h.elim
 |_::_,[_],h=>h.elim
theorem aal.isRowp{ok:Nat->Prop}{w:World}{g:Nat}:∀{ts:List T} {xs:List Value} {q:Nat},aal ok w ts xs->(∀j u,xs[j]? =some u->w.cell? ⟨g,q+j,none⟩=some u)->aav ok w ts g q
 |[],[],_,_,_=>trivial
 |t::ts,x::s::xs,q,⟨h1,h2,⟨a,c,h3,h4⟩,h5⟩,hc=>by
  subst h2 h3;simp only[aav];refine⟨abO.2 ⟨h1,by simpa using hc 0 _ rfl,a,c,hc 1 _ rfl,h4⟩,aal.isRowp h5 (fun j u hj=> ?_)⟩;rw[show q+2+j=q+(j+2) from by omega];exact hc (j+2) u (by simpa using hj)
 |[],_::_,_,h,_=>h.elim
 |_::_,[],_,h,_=>h.elim
 |_::_,[_],_,h,_=>h.elim
theorem aal.length{ok:Nat->Prop}{w:World}:∀{ts:List T} {xs:List Value},aal ok w ts xs->xs.length=ts.length*2
 |[],[],_=>rfl
 |_::_,_::_::_,⟨_,_,_,p4⟩=>by simp[p4.length];omega
 |[],_::_,h=>h.elim
 |_::_,[],h=>h.elim
 |_::_,[_],h=>h.elim
theorem aeO{ok:Nat->Prop}{w:World}{b:Nat}:∀(ts:List T) (o:Nat),aav ok w ts b o->∃xs,aal ok w ts xs/\(∀j u,xs[j]? =some u->w.cell? ⟨b,o+j,none⟩=some u)/\(∀u∈xs,u.oneCell'=true):=by
 intro ts
 induction ts with
 |nil=>intro o _;exact⟨[],trivial,by simp,by simp⟩
 |cons t ts ih=>
  intro o h;simp only[aav] at h;obtain⟨xs,h1,h2,h3⟩:=ih (o+2) h.2;obtain⟨wf,p1,a,c,p2,hA⟩:=abO.1 h.1;refine⟨.int .i64 t.head:: .slice a t.args.length c::xs,⟨wf,rfl,⟨a,c,rfl,hA⟩,h1⟩,?_,?_⟩
  ·intro j u hj
   match j,hj with
   |0,hj=>simp at hj;subst hj;exact p1
   |1,hj=>simp at hj;subst hj;exact p2
   |j+2,hj=>rw[show o+(j+2)=o+2+j from by omega];exact h2 j u (by simpa using hj)
  ·intro u hu;simp at hu
   rcases hu with rfl|rfl|hu
   ·rfl
   ·rfl
   ·exact h3 u hu
theorem aaB(b o k:Nat):(⟨b,o,none⟩:Addr).add k=⟨b,o+k,none⟩:=by
 unfold Addr.add;split<;>simp_all
theorem ael{ok ok':Nat->Prop}{w:World}{base:Nat}{e:TypeId}{v:Value}{ts:List T}{xs:List Value}(hown:w.ownsRow base e 2 v ts.length xs)(hr:aal ok w ts xs)(hm:∀b,ok b->ok' b)(hg:∀g,v.ownBlock=some g->ok' g):∃a c,v= .slice a ts.length c/\aaj ok' w ts a c:=by
 have hcells:=fun g hg=>hown.cells (g:=g) hg
 rcases hown.2 with⟨rfl,h0⟩|⟨g,cap,cur,rfl,hb,hh,hn,hc,hs,_⟩
 ·exact⟨none,0,by rw[h0],by omega,by simp[maxLen],.inl (aC h0)⟩
 ·refine⟨_,cap,rfl,hn,hc,.inr ⟨g,0,rfl,hg g rfl,aav.keep (fun _ _=>rfl) hm ts rfl (hr.isRowp (fun j u hj=> ?_))⟩⟩;have:=hcells g rfl j u hj;rw[aaB] at this;exact this
def T.at(t:T):List Int->Option T
 |[]=>some t
 |i::p=>if i<0\/(t.args.length:Int)<=i then none else(t.args[i.toNat]?).bind (fun s=>s.at p)
def T.put(t:T)(u:T):List Int->T
 |[]=>u
 |i::p=> .node t.head (t.args.modify i.toNat (fun s=>s.put u p))
def behind(i:Nat)(l:List (List Int)):List (List Int):=l.map (fun p=>(i:Int)::p)
mutual
def T.all:T->List (List Int)
 | .node _ ts=>[]::T.alls 0 ts
def T.alls(i:Nat):List T->List (List Int)
 |[]=>[]
 |t::ts=>behind i t.all++T.alls (i+1) ts
end
def acP(aM:Nat)(w:World)(zs:List Int)(a:Option Addr)(c:Nat):Prop:=
 zs.length<=c/\c<=maxLen/\(zs=[]\/∃b o,a=some ⟨b,o,none⟩/\b<aM/\∀(j:Nat) (z:Int),zs[j]? =some z->w.cell? ⟨b,o+j,none⟩=some (.int .i64 z))
theorem acP.keep{aM aN:Nat}{w w':World}{zs:List Int}{a:Option Addr}{c:Nat}(h:acP aM w zs a c)(hb:∀b,b<aM->w'.heap[b]? =w.heap[b]?)(hn:aM<=aN):acP aN w' zs a c:=by
 obtain⟨h1,h2,h3⟩:=h;refine⟨h1,h2,?_⟩
 rcases h3 with h3|⟨b,o,h4,h5,h6⟩
 ·exact .inl h3
 ·exact .inr ⟨b,o,h4,by omega,fun j z hz=>(aq (a:=⟨b,o+j,none⟩) (hb b h5)).trans (h6 j z hz)⟩
theorem acP.below{aM:Nat}{w w':World}{zs:List Int}{a:Option Addr}{c:Nat}(h:acP aM w zs a c)(hb:Below aM w w'):acP aM w' zs a c:=h.keep (fun b h=>hb.block b h) (af _)
theorem acP.mono{aM aN:Nat}{w:World}{zs:List Int}{a:Option Addr}{c:Nat}(h:acP aM w zs a c)(hn:aM<=aN):acP aN w zs a c:=h.keep (fun _ _=>rfl) hn
theorem acP.elem{aM:Nat}{w:World}{zs:List Int}{a:Option Addr}{c:Nat}(h:acP aM w zs a c){k:Nat}(hk:k<zs.length):∃(b o:Nat) (z:Int),a=some ⟨b,o,none⟩/\b<aM/\zs[k]? =some z/\w.cell? ⟨b,o+k,none⟩=some (.int .i64 z):=by
 rcases h.2.2 with rfl|⟨b,o,h4,h5,h6⟩
 ·simp at hk
 ·exact⟨b,o,zs[k],h4,h5,ai hk,h6 k _ (ai hk)⟩
def Kept(aM B:Nat)(W W':World):Prop:=Below aM W W'/\∀b,B<=b->b<W.heap.size->W'.heap[b]? =W.heap[b]?
theorem Kept.refl(aM B:Nat)(W:World):Kept aM B W W:=⟨ag _ _,fun _ _ _=>rfl⟩
theorem Kept.trans{aM B:Nat}{X Y Z:World}(h:Kept aM B X Y)(k:Kept aM B Y Z):Kept aM B X Z:=
 ⟨h.1.trans k.1,fun b hb hl=>(k.2 b hb (aF hl h.1.size)).trans (h.2 b hb hl)⟩
theorem Kept.mono{aM B B':Nat}{X Y:World}(h:Kept aM B X Y)(hB:B<=B'):Kept aM B' X Y:=⟨h.1,fun b hb hl=>h.2 b (by omega) hl⟩
theorem Kept.alloc{aM B:Nat}{X Y:World}(h:Kept aM B X Y)(hn:aM<=X.heap.size)(o:Obj):Kept aM B X (Y.alloc o):=
 ⟨h.1.alloc (aE hn h.1.size) o,fun b hb hl=>(az _ _ _ (aF hl h.1.size)).trans (h.2 b hb hl)⟩
theorem Kept.drew{aM B:Nat}{X Y:World}(h:Kept aM B X Y):Kept aM B X Y.drew:=⟨h.1.drew,h.2⟩
theorem Kept.setCell{aM B:Nat}{X Y:World}(h:Kept aM B X Y){p:Addr}(hp:aM<=p.block)(hq:p.block<B\/X.heap.size<=p.block)(u:Value):Kept aM B X (Y.setCell p u):=
 ⟨h.1.setCell hp u,fun b hb hl=>(an _ _ _ _ (by omega)).trans (h.2 b hb hl)⟩
theorem Kept.below{aM B:Nat}{X Y Z:World}(h:Kept aM B X Y)(hn:aM<=Y.heap.size)(k:Below Y.heap.size Y Z):Kept aM B X Z:=
 ⟨h.1.trans (k.mono hn),fun b hb hl=>(k.block b (aF hl h.1.size)).trans (h.2 b hb hl)⟩
theorem Kept.grown{aM B:Nat}{X Y Z:World}{row:Option Nat}(h:Kept aM B X Y)(hg:Y.grownBy Z row)(hn:aM<=Y.heap.size)(hr:∀k,row=some k->aM<=k/\(k<B\/X.heap.size<=k)):Kept aM B X Z:=
 ⟨h.1.grown hg hn (fun k e=>(hr k e).1),fun b hb hl=>(hg.block b (aF hl h.1.size) (fun e=>by have:=(hr b e.symm).2;omega)).trans (h.2 b hb hl)⟩
theorem Kept.cell{aM B:Nat}{X Y:World}(h:Kept aM B X Y){p:Addr}{v:Value}(hB:B<=p.block)(hc:X.cell? p=some v):Y.cell? p=some v:=
 (aq (h.2 p.block hB (World.block_lt_of_cell? X p hc))).trans hc
def aaC{β:Type}(B:Nat)(J:β->World->Prop):Prop:=∀s W W',J s W->Below B W W'->J s W'
def awI{α:Type}(F:Fence)(n:Nat)(P:Program)(g:Nat)(lb:Array Value)(aM:Nat)(may:List α->α->Array Value->World->Prop)(S Sp:List α->Prop)(w:World):Prop:=
 ∀(l:Nat) (J Jx:List α->World->Prop) (W:World),Below w.heap.size w W->aaC W.heap.size J->aaC W.heap.size Jx->
  (∀pre x vs W1,J pre W1->W.heap.size<=W1.heap.size->may pre x vs W1->YieldAt F (n-1) P l vs W1 fun e W'=>
   (e= .returned (.bool true)/\J (pre++[x]) W'/\Kept aM W.heap.size W1 W')\/(e= .returned (.bool false)/\Jx (pre++[x]) W'))->
  J [] W->
  CallsIn F n P g (#[.func (.yield l) #[] #[]]++lb) W fun e W'=>(∃v,e= .returned v)/\((∃xs,S xs/\J xs W')\/(∃pre,Sp pre/\Jx pre W'))
def atz{α:Type}(aM B:Nat)(I:List α->World->Prop)(Ix:Code->List α->World->Prop)(xs:List α)(W:World):Exit->Act->World->Prop
 | .normal,_,W'=>Kept aM B W W'/\I xs W'
 | .ret,_,W'=>Kept aM B W W'/\Ix .ret xs W'
 | .exit id,_,W'=>Kept aM B W W'/\Ix (.exit id) xs W'
 | .goto t,_,W'=>Kept aM B W W'/\Ix (.goto t) xs W'
 | .panic _,_,_=>False
 | .outgrown,_,_=>False
theorem acR{aM B l:Nat}{W:World}{o:Obj}(o':Obj)(hn:aM<=l)(hl:W.heap[l]? =some o)(hB:l<B):Kept aM B W (W.putObj l o'):=
 ⟨(ag aM W).grown (grownBy_putObj' W l o') (by have:=(aj.1 hl).1;omega) (fun k e=>by cases e;omega),
  fun b hb _=>World.putObj_heap_other (by omega)⟩
theorem aaw{B l:Nat}{W:World}{o:Obj}(o':Obj)(hl:W.heap[l]? =some o)(hB:B<=l):Below B W (W.putObj l o'):=
 (ag B W).grown (grownBy_putObj' W l o') (by have:=(aj.1 hl).1;omega) (fun k e=>by cases e;omega)
variable {F:Fence} {n:Nat} {P:Program}
theorem af3{α:Type}{g:Operand}{ps:Array Tmp}{assign body:Code}{Q:Exit->Act->World->Prop}{a:Act}{w:World}
 (hro:F.round=none) (h1:1<=n) {gf:Nat} {lb:Array Value} (hg:a.eval g= .func (.func gf) #[] lb) (hFg:F.fn gf) (eg:∀args w,(callFunc gf args).run P w= .ok (.enter gf args) w)
 {aM:Nat} {may:List α->α->Array Value->World->Prop} {S Sp:List α->Prop} {w0:World} (hseq:awI F (n-1) P gf lb aM may S Sp w0)
 (hb0:Below w0.heap.size w0 w) (hn₀:aM<=w.heap.size) (hps:∀pre x vs W,may pre x vs W->vs.size=ps.size) (hmay:∀pre x vs W W',may pre x vs W->Below aM W W'->may pre x vs W')
 (I:List α->World->Prop) (Ix:Code->List α->World->Prop) (hI:aaC w.heap.size I) (hIx:∀c,aaC w.heap.size (Ix c)) (h0:I [] w)
 (Ax:α->Array Value->Act->World->Prop) (hAx:∀x vs a' W (l:Nat) (o o':Obj),w.heap.size<=l->W.heap[l]? =some o->o.isCells=false->Ax x vs a' W->Ax x vs a' (W.putObj l o'))
 (hassign:∀(l:Nat) (pre:List α) (x:α) (vs:Array Value) (W:World) (K:Act->World->Prop),w.heap.size<=W.heap.size->I pre W->may pre x vs W->
  (∀a' W',Kept aM w.heap.size W W'->I pre W'->Ax x vs a' W'->K a' W')->
  assign.wpIn (F.inRound l) (n-1-1) P (Exit.then K (fun _ _ _=>False)) { tmps:=(ps.zip vs).foldl (fun t (p,v)=>t.setIfInBounds p v) a.tmps,defers:=[]} W)
 (hbody:∀(l:Nat) (pre:List α) (x:α) (vs:Array Value) (a':Act) (W:World),w.heap.size<=W.heap.size->I pre W->may pre x vs W->Ax x vs a' W->body.wpIn (F.inRound l) (n-1-1) P (atz aM w.heap.size I Ix (pre++[x]) W) a' W)
 (hdone:∀(D:Nat) (xs:List α) (W:World),w.heap.size<=D->S xs->I xs W->W.heap[D]? =some (.deferred (some []))->Q .normal { a with defers:={ target:= .collected D,args:=#[]}::a.defers} W)
 (hstop:∀(D:Nat) (c:Code) (pre:List α) (W:World),w.heap.size<=D->Sp pre->Ix c pre W->W.heap[D]? =some (.deferred (some []))->c.wpIn F n P Q { a with defers:={ target:= .collected D,args:=#[]}::a.defers} W):
 (Code.rangeFunc g ps assign body).wpIn F n P Q a w:=by
 refine wpIn_rangeFunc fun fn hfn=> ?_;rw[hro];obtain⟨rec,hrec⟩:∃rec:LoopState->Option Code->Loop,rec=fun st pe=>{ state:=st,pending:=pe,fn,tmps:=a.tmps,params:=ps,assign,body,defers:=w.heap.size}:=⟨_,rfl⟩;obtain⟨W1,hW1⟩:∃W1,(w.alloc (.deferred (some []))).alloc (.loop (rec .ready none))=W1:=⟨_,rfl⟩;have hs1:W1.heap.size=w.heap.size+2:=by rw[←hW1];simp
 have hL1:W1.heap[w.heap.size+1]? =some (.loop (rec .ready none)):=by
  rw[←hW1];have:=World.alloc_heap_new (w.alloc (.deferred (some []))) (.loop (rec .ready none));rwa[World.size_alloc] at this
 have hK1:W1.heap[w.heap.size]? =some (.deferred (some [])):=by
  rw[←hW1];exact(az _ _ _ (by simp)).trans (World.alloc_heap_new w _)
 have hbw:Below w.heap.size w W1:=by rw[←hW1];exact((ag _ w).alloc (af _) _).alloc (by simp) _
 refine⟨w.heap.size+1,[{ target:= .collected w.heap.size,args:=#[]}],W1,{ target:= .fn (.func gf) lb,args:=#[.func (.yield (w.heap.size+1)) #[] #[]]},W1,gf,
  #[.func (.yield (w.heap.size+1)) #[] #[]]++lb,W1,?_,?_,?_,?_,fun _=>h1,?_⟩
 ·rw[←hW1,hrec];exact run_enterLoop_outer _ _ _ _ _
 ·simp only[resolve,hg];simp[go_sem]
 ·intro f' hf';simp[Target.leads] at hf';subst hf';exact hFg
 ·simp[invoke,go_sem,eg]
 ·refine(hseq (w.heap.size+1)
   (fun pre W=>I pre W/\W.heap[w.heap.size+1]? =some (.loop (rec .ready none))/\W.heap[w.heap.size]? =some (.deferred (some [])))
   (fun pre W=>∃c,Ix c pre W/\W.heap[w.heap.size+1]? =some (.loop (rec .done (some c)))/\W.heap[w.heap.size]? =some (.deferred (some [])))
   W1 (hb0.trans (hbw.mono hb0.size)) ?_ ?_ ?_ ⟨hI _ _ _ h0 hbw,hL1,hK1⟩).mono ?_
  ·rintro s X Y ⟨h,hl,hk⟩ hb;exact⟨hI _ _ _ h (hb.mono (by omega)),(hb.block _ (by omega)).trans hl,(hb.block _ (by omega)).trans hk⟩
  ·rintro s X Y ⟨c,h,hl,hk⟩ hb;exact⟨c,hIx _ _ _ _ h (hb.mono (by omega)),(hb.block _ (by omega)).trans hl,(hb.block _ (by omega)).trans hk⟩
  ·
   rintro pre x vs W ⟨hi,hl,hk⟩ hsz hm;have hy:=run_yield (P:=P) (args:=vs) hl (by rw[hrec];exact hps _ _ _ _ hm);rw[hrec] at hy;refine⟨fn,_,assign,body,hy,roundIn_of_wpIn hfn (hassign _ pre x vs W _ (by omega) hi hm ?_)⟩;clear hy;intro a' Wa hka hia hax;have hla:=(hka.2 _ (by omega) (by omega)).trans hl;have hka':=(hka.2 _ (by omega) (by omega)).trans hk;have hsa:W.heap.size<=Wa.heap.size:=hka.1.size;refine⟨_,run_beginRound hla (by rw[hrec]),?_⟩;obtain⟨Wb,hWb⟩:∃Wb,Wa.putObj (w.heap.size+1) (.loop { rec .ready none with state:= .busy})=Wb:=⟨_,rfl⟩;have hlb:Wb.heap[w.heap.size+1]? =some (.loop { rec .ready none with state:= .busy}):=by rw[←hWb];exact World.putObj_heap_same (by omega)
   have hkb:Wb.heap[w.heap.size]? =some (.deferred (some [])):=by rw[←hWb];exact(World.putObj_heap_other (by omega)).trans hka'
   have hab:Kept aM (w.heap.size+2) Wa Wb:=by rw[←hWb];exact acR _ (by omega) hla (by omega)
   have hib:I pre Wb:=by rw[←hWb];exact hI _ _ _ hia (aaw _ hla (by omega))
   have haxb:Ax x vs a' Wb:=by rw[←hWb];exact hAx _ _ _ _ _ _ _ (by omega) hla rfl hax
   rw[hWb];have hsb:Wa.heap.size<=Wb.heap.size:=hab.1.size;have hmb:may pre x vs Wb:=hmay _ _ _ _ _ hm (hka.1.trans hab.1);refine wpIn_mono (hbody _ pre x vs a' Wb (by omega) hib hmb haxb) ?_
   have fin:∀(jump:Option Code) (W3:World),Kept aM w.heap.size Wb W3->∃W4,(Instr.endRound (w.heap.size+1) jump).run P W3= .ok (.bool jump.isNone) W4/\
    W4.heap[w.heap.size+1]? =some (.loop (rec (if jump.isNone then .ready else .done) jump))/\W4.heap[w.heap.size]? =some (.deferred (some []))/\Below w.heap.size W3 W4/\Kept aM (w.heap.size+2) W W4:=by
    intro jump W3 h3;have hl3:=(h3.2 _ (by omega) (by omega)).trans hlb;have hk3:=(h3.2 _ (by omega) (by omega)).trans hkb;have hs3:Wb.heap.size<=W3.heap.size:=h3.1.size;have hr:=run_endRound (P:=P) jump hl3;refine⟨_,hr,?_,(World.putObj_heap_other (by omega)).trans hk3,aaw _ hl3 (by omega),?_⟩
    ·rw[World.putObj_heap_same (by omega),hrec]
    ·exact(((hka.mono (by omega)).trans hab).trans (h3.mono (by omega))).trans (acR _ (by omega) hl3 (by omega))
   rintro e a3 W3 hp;rw[hs1];cases e with
   |normal=>
    obtain⟨W4,hr,h4,h5,h6,h7⟩:=fin none W3 hp.1;exact⟨_,_,hr,.inl ⟨rfl,⟨hI _ _ _ hp.2 h6,h4,h5⟩,h7⟩⟩
   |ret=>
    obtain⟨W4,hr,h4,h5,h6,h7⟩:=fin (some .ret) W3 hp.1;exact⟨_,_,hr,.inr ⟨rfl,.ret,hIx _ _ _ _ hp.2 h6,h4,h5⟩⟩
   |exit id=>
    obtain⟨W4,hr,h4,h5,h6,h7⟩:=fin (some (.exit id)) W3 hp.1;exact⟨_,_,hr,.inr ⟨rfl,.exit id,hIx _ _ _ _ hp.2 h6,h4,h5⟩⟩
   |goto t=>
    obtain⟨W4,hr,h4,h5,h6,h7⟩:=fin (some (.goto t)) W3 hp.1;exact⟨_,_,hr,.inr ⟨rfl,.goto t,hIx _ _ _ _ hp.2 h6,h4,h5⟩⟩
   |panic ch=>exact hp.elim
   |outgrown=>exact hp.elim
  ·rintro e W2 ⟨⟨v,rfl⟩,(⟨xs,hS,hi,hl,hk⟩|⟨pre,hSp,c,hi,hl,hk⟩)⟩
   ·exact⟨none,_,by have:=run_endLoop (P:=P) hl (by rw[hrec];simp);rw[hrec] at this;exact this,hdone _ xs _ (af _) hS (hI _ _ _ hi (aaw _ hl (by omega))) ((World.putObj_heap_other (by omega)).trans hk)⟩
   ·exact⟨some c,_,by have:=run_endLoop (P:=P) hl (by rw[hrec];simp);rw[hrec] at this;exact this,hstop _ c pre _ (af _) hSp (hIx _ _ _ _ hi (aaw _ hl (by omega))) ((World.putObj_heap_other (by omega)).trans hk)⟩
def ab4(aM B:Nat)(own:TypeId->Bool)(W W':World):Prop:=
 Below aM W W'/\∀b,B<=b->b<W.heap.size->(∀cs e fz,W.heap[b]? =some (.cells cs e fz)->own e=true)->W'.heap[b]? =W.heap[b]?
theorem Kept.toO{aM B:Nat}{W W':World}(h:Kept aM B W W')(own:TypeId->Bool):ab4 aM B own W W':=⟨h.1,fun b hb hl _=>h.2 b hb hl⟩
theorem ab4.refl(aM B:Nat)(own:TypeId->Bool)(W:World):ab4 aM B own W W:=⟨ag _ _,fun _ _ _ _=>rfl⟩
theorem ab4.trans{aM B:Nat}{own:TypeId->Bool}{X Y Z:World}(h:ab4 aM B own X Y)(k:ab4 aM B own Y Z):ab4 aM B own X Z:=
 ⟨h.1.trans k.1,fun b hb hl ho=>by
  have e:=h.2 b hb hl ho;exact(k.2 b hb (aF hl h.1.size) (by rw[e];exact ho)).trans e⟩
theorem ab4.mono{aM B B':Nat}{own:TypeId->Bool}{X Y:World}(h:ab4 aM B own X Y)(hB:B<=B'):ab4 aM B' own X Y:=⟨h.1,fun b hb hl ho=>h.2 b (by omega) hl ho⟩
theorem ab4.at{aM B:Nat}{own:TypeId->Bool}{X Y:World}(h:ab4 aM B own X Y){b:Nat}(hb:B<=b){cs:Array Value}{e:TypeId}{fz:Nat×Nat}(hc:X.heap[b]? =some (.cells cs e fz))(ho:own e=true):Y.heap[b]? =X.heap[b]? :=
 h.2 b hb (aj.1 hc).1 (fun cs' e' fz' hc'=>by rw[hc] at hc';cases hc';exact ho)
theorem ab4.obj{aM B:Nat}{own:TypeId->Bool}{X Y:World}(h:ab4 aM B own X Y){b:Nat}(hb:B<=b){o:Obj}(hc:X.heap[b]? =some o)(ho:o.isCells=false):Y.heap[b]? =X.heap[b]? :=
 h.2 b hb (aj.1 hc).1 (fun cs' e' fz' hc'=>by rw[hc] at hc';cases hc';cases ho)
def Chg(B:Nat)(e:TypeId)(W W':World):Prop:=Below B W W'/\∀(b:Nat) (cs:Array Value) (e':TypeId) (fz:Nat×Nat),W.heap[b]? =some (Obj.cells cs e' fz)->e'≠e->W'.heap[b]? =W.heap[b]?
theorem Chg.mono{B B':Nat}{e:TypeId}{W W':World}(h:Chg B e W W')(hB:B'<=B):Chg B' e W W':=⟨h.1.mono hB,h.2⟩
theorem Chg.alloc(B:Nat)(e:TypeId)(W:World)(hB:B<=W.heap.size)(o:Obj):Chg B e W (W.alloc o):=
 ⟨(ag _ _).alloc hB o,fun b cs e' fz h _=>az _ _ _ (aj.1 h).1⟩
theorem Chg.putObj{B l:Nat}(e:TypeId){W:World}{o:Obj}(o':Obj)(hl:W.heap[l]? =some o)(ho:o.isCells=false)(hB:B<=l):Chg B e W (W.putObj l o'):=
 ⟨aaw o' hl hB,fun b cs e' fz h _=>World.putObj_heap_other (fun hc=>by subst hc;rw[hl] at h;cases h;cases ho)⟩
theorem Chg.trans{B:Nat}{e:TypeId}{X Y Z:World}(h:Chg B e X Y)(k:Chg B e Y Z):Chg B e X Z:=
 ⟨h.1.trans k.1,fun b cs e' fz hc he=>by have e1:=h.2 b cs e' fz hc he;exact(k.2 b cs e' fz (e1.trans hc) he).trans e1⟩
def acx{β:Type}(B:Nat)(e:TypeId)(J:β->World->Prop):Prop:=∀s W W',J s W->Chg B e W W'->J s W'
theorem aaC.toChg{β:Type}{B:Nat}{J:β->World->Prop}(h:aaC B J)(e:TypeId):acx B e J:=fun s W W' hs hc=>h s W W' hs hc.1
def awJ{α:Type}(F:Fence)(n:Nat)(P:Program)(g:Nat)(lb:Array Value)(aM:Nat)(e:TypeId)(own:TypeId->Bool)(may:List α->α->Array Value->World->Prop)(S Sp:List α->Prop)(w:World):Prop:=
 ∀(l:Nat) (J Jx:List α->World->Prop) (W:World),Below w.heap.size w W->acx W.heap.size e J->acx W.heap.size e Jx->
  (∀pre x vs W1,J pre W1->W.heap.size<=W1.heap.size->may pre x vs W1->YieldAt F (n-1) P l vs W1 fun e W'=>
   (e= .returned (.bool true)/\J (pre++[x]) W'/\ab4 aM W.heap.size own W1 W')\/(e= .returned (.bool false)/\Jx (pre++[x]) W'))->
  J [] W->
  CallsIn F n P g (#[.func (.yield l) #[] #[]]++lb) W fun e W'=>(∃v,e= .returned v)/\((∃xs,S xs/\J xs W')\/(∃pre,Sp pre/\Jx pre W'))
theorem awJ.toB{α:Type}{F:Fence}{n:Nat}{P:Program}{g:Nat}{lb:Array Value}{aM:Nat}{e:TypeId}{own:TypeId->Bool}{may:List α->α->Array Value->World->Prop}{S Sp:List α->Prop}{w:World}
 (h:awJ F n P g lb aM e own may S Sp w):awI F n P g lb aM may S Sp w:=fun l J Jx W hW hJ hJx hY h0=>
 h l J Jx W hW (hJ.toChg e) (hJx.toChg e) (fun pre x vs W1 hj hs hm=>by
   obtain⟨fn,tmps,assign,body,hy,hR⟩:=hY pre x vs W1 hj hs hm;exact⟨fn,tmps,assign,body,hy,hR.mono (fun e w' hr=>hr.imp (fun r=>⟨r.1,r.2.1,r.2.2.toO own⟩) id)⟩) h0
def awK{α:Type}(F:Fence)(n:Nat)(P:Program)(g:Nat)(lb:Array Value)(aM:Nat)(inv:World->Prop)(may:List α->α->Array Value->World->Prop)(S Sp:List α->Prop)(w:World):Prop:=
 ∀(l:Nat) (J Jx:List α->World->Prop) (W:World),Below w.heap.size w W->aaC W.heap.size J->aaC W.heap.size Jx->(∀pre W1,J pre W1->inv W1)->
  (∀pre x vs W1,J pre W1->W.heap.size<=W1.heap.size->may pre x vs W1->YieldAt F (n-1) P l vs W1 fun e W'=>
   (e= .returned (.bool true)/\J (pre++[x]) W'/\Kept aM W.heap.size W1 W')\/(e= .returned (.bool false)/\Jx (pre++[x]) W'))->
  J [] W->
  CallsIn F n P g (#[.func (.yield l) #[] #[]]++lb) W fun e W'=>(∃v,e= .returned v)/\((∃xs,S xs/\J xs W')\/(∃pre,Sp pre/\Jx pre W'))
theorem alq{α:Type}{g:Operand}{ps:Array Tmp}{assign body:Code}{Q:Exit->Act->World->Prop}{a:Act}{w:World}
 (hro:F.round=none) (h1:1<=n) {gf:Nat} {lb:Array Value} (hg:a.eval g= .func (.func gf) #[] lb) (hFg:F.fn gf) (eg:∀args w,(callFunc gf args).run P w= .ok (.enter gf args) w)
 {aM:Nat} {inv:World->Prop} {may:List α->α->Array Value->World->Prop} {S Sp:List α->Prop} {w0:World} (hseq:awK F (n-1) P gf lb aM inv may S Sp w0)
 (hb0:Below w0.heap.size w0 w) (hn₀:aM<=w.heap.size) (hps:∀pre x vs W,may pre x vs W->vs.size=ps.size) (hmay:∀pre x vs W W',may pre x vs W->Below aM W W'->may pre x vs W')
 (I:List α->World->Prop) (Ix:Code->List α->World->Prop) (hI:aaC w.heap.size I) (hIx:∀c,aaC w.heap.size (Ix c)) (h0:I [] w) (hinv:∀pre W,I pre W->inv W)
 (Ax:α->Array Value->Act->World->Prop) (hAx:∀x vs a' W (l:Nat) (o o':Obj),w.heap.size<=l->W.heap[l]? =some o->o.isCells=false->Ax x vs a' W->Ax x vs a' (W.putObj l o'))
 (hassign:∀(l:Nat) (pre:List α) (x:α) (vs:Array Value) (W:World) (K:Act->World->Prop),w.heap.size<=W.heap.size->I pre W->may pre x vs W->
  (∀a' W',Kept aM w.heap.size W W'->I pre W'->Ax x vs a' W'->K a' W')->
  assign.wpIn (F.inRound l) (n-1-1) P (Exit.then K (fun _ _ _=>False)) { tmps:=(ps.zip vs).foldl (fun t (p,v)=>t.setIfInBounds p v) a.tmps,defers:=[]} W)
 (hbody:∀(l:Nat) (pre:List α) (x:α) (vs:Array Value) (a':Act) (W:World),w.heap.size<=W.heap.size->I pre W->may pre x vs W->Ax x vs a' W->body.wpIn (F.inRound l) (n-1-1) P (atz aM w.heap.size I Ix (pre++[x]) W) a' W)
 (hdone:∀(D:Nat) (xs:List α) (W:World),w.heap.size<=D->S xs->I xs W->W.heap[D]? =some (.deferred (some []))->Q .normal { a with defers:={ target:= .collected D,args:=#[]}::a.defers} W)
 (hstop:∀(D:Nat) (c:Code) (pre:List α) (W:World),w.heap.size<=D->Sp pre->Ix c pre W->W.heap[D]? =some (.deferred (some []))->c.wpIn F n P Q { a with defers:={ target:= .collected D,args:=#[]}::a.defers} W):
 (Code.rangeFunc g ps assign body).wpIn F n P Q a w:=by
 refine wpIn_rangeFunc fun fn hfn=> ?_;rw[hro];obtain⟨rec,hrec⟩:∃rec:LoopState->Option Code->Loop,rec=fun st pe=>{ state:=st,pending:=pe,fn,tmps:=a.tmps,params:=ps,assign,body,defers:=w.heap.size}:=⟨_,rfl⟩;obtain⟨W1,hW1⟩:∃W1,(w.alloc (.deferred (some []))).alloc (.loop (rec .ready none))=W1:=⟨_,rfl⟩;have hs1:W1.heap.size=w.heap.size+2:=by rw[←hW1];simp
 have hL1:W1.heap[w.heap.size+1]? =some (.loop (rec .ready none)):=by
  rw[←hW1];have:=World.alloc_heap_new (w.alloc (.deferred (some []))) (.loop (rec .ready none));rwa[World.size_alloc] at this
 have hK1:W1.heap[w.heap.size]? =some (.deferred (some [])):=by
  rw[←hW1];exact(az _ _ _ (by simp)).trans (World.alloc_heap_new w _)
 have hbw:Below w.heap.size w W1:=by rw[←hW1];exact((ag _ w).alloc (af _) _).alloc (by simp) _
 refine⟨w.heap.size+1,[{ target:= .collected w.heap.size,args:=#[]}],W1,{ target:= .fn (.func gf) lb,args:=#[.func (.yield (w.heap.size+1)) #[] #[]]},W1,gf,
  #[.func (.yield (w.heap.size+1)) #[] #[]]++lb,W1,?_,?_,?_,?_,fun _=>h1,?_⟩
 ·rw[←hW1,hrec];exact run_enterLoop_outer _ _ _ _ _
 ·simp only[resolve,hg];simp[go_sem]
 ·intro f' hf';simp[Target.leads] at hf';subst hf';exact hFg
 ·simp[invoke,go_sem,eg]
 ·refine(hseq (w.heap.size+1)
   (fun pre W=>I pre W/\W.heap[w.heap.size+1]? =some (.loop (rec .ready none))/\W.heap[w.heap.size]? =some (.deferred (some [])))
   (fun pre W=>∃c,Ix c pre W/\W.heap[w.heap.size+1]? =some (.loop (rec .done (some c)))/\W.heap[w.heap.size]? =some (.deferred (some [])))
   W1 (hb0.trans (hbw.mono hb0.size)) ?_ ?_ (fun pre W h=>hinv pre W h.1) ?_ ⟨hI _ _ _ h0 hbw,hL1,hK1⟩).mono ?_
  ·rintro s X Y ⟨h,hl,hk⟩ hb;exact⟨hI _ _ _ h (hb.mono (by omega)),(hb.block _ (by omega)).trans hl,(hb.block _ (by omega)).trans hk⟩
  ·rintro s X Y ⟨c,h,hl,hk⟩ hb;exact⟨c,hIx _ _ _ _ h (hb.mono (by omega)),(hb.block _ (by omega)).trans hl,(hb.block _ (by omega)).trans hk⟩
  ·
   rintro pre x vs W ⟨hi,hl,hk⟩ hsz hm;have hy:=run_yield (P:=P) (args:=vs) hl (by rw[hrec];exact hps _ _ _ _ hm);rw[hrec] at hy;refine⟨fn,_,assign,body,hy,roundIn_of_wpIn hfn (hassign _ pre x vs W _ (by omega) hi hm ?_)⟩;clear hy;intro a' Wa hka hia hax;have hla:=(hka.2 _ (by omega) (by omega)).trans hl;have hka':=(hka.2 _ (by omega) (by omega)).trans hk;have hsa:W.heap.size<=Wa.heap.size:=hka.1.size;refine⟨_,run_beginRound hla (by rw[hrec]),?_⟩;obtain⟨Wb,hWb⟩:∃Wb,Wa.putObj (w.heap.size+1) (.loop { rec .ready none with state:= .busy})=Wb:=⟨_,rfl⟩;have hlb:Wb.heap[w.heap.size+1]? =some (.loop { rec .ready none with state:= .busy}):=by rw[←hWb];exact World.putObj_heap_same (by omega)
   have hkb:Wb.heap[w.heap.size]? =some (.deferred (some [])):=by rw[←hWb];exact(World.putObj_heap_other (by omega)).trans hka'
   have hab:Kept aM (w.heap.size+2) Wa Wb:=by rw[←hWb];exact acR _ (by omega) hla (by omega)
   have hib:I pre Wb:=by rw[←hWb];exact hI _ _ _ hia (aaw _ hla (by omega))
   have haxb:Ax x vs a' Wb:=by rw[←hWb];exact hAx _ _ _ _ _ _ _ (by omega) hla rfl hax
   rw[hWb];have hsb:Wa.heap.size<=Wb.heap.size:=hab.1.size;have hmb:may pre x vs Wb:=hmay _ _ _ _ _ hm (hka.1.trans hab.1);refine wpIn_mono (hbody _ pre x vs a' Wb (by omega) hib hmb haxb) ?_
   have fin:∀(jump:Option Code) (W3:World),Kept aM w.heap.size Wb W3->∃W4,(Instr.endRound (w.heap.size+1) jump).run P W3= .ok (.bool jump.isNone) W4/\
    W4.heap[w.heap.size+1]? =some (.loop (rec (if jump.isNone then .ready else .done) jump))/\W4.heap[w.heap.size]? =some (.deferred (some []))/\Below w.heap.size W3 W4/\Kept aM (w.heap.size+2) W W4:=by
    intro jump W3 h3;have hl3:=(h3.2 _ (by omega) (by omega)).trans hlb;have hk3:=(h3.2 _ (by omega) (by omega)).trans hkb;have hs3:Wb.heap.size<=W3.heap.size:=h3.1.size;have hr:=run_endRound (P:=P) jump hl3;refine⟨_,hr,?_,(World.putObj_heap_other (by omega)).trans hk3,aaw _ hl3 (by omega),?_⟩
    ·rw[World.putObj_heap_same (by omega),hrec]
    ·exact(((hka.mono (by omega)).trans hab).trans (h3.mono (by omega))).trans (acR _ (by omega) hl3 (by omega))
   rintro e a3 W3 hp;rw[hs1];cases e with
   |normal=>
    obtain⟨W4,hr,h4,h5,h6,h7⟩:=fin none W3 hp.1;exact⟨_,_,hr,.inl ⟨rfl,⟨hI _ _ _ hp.2 h6,h4,h5⟩,h7⟩⟩
   |ret=>
    obtain⟨W4,hr,h4,h5,h6,h7⟩:=fin (some .ret) W3 hp.1;exact⟨_,_,hr,.inr ⟨rfl,.ret,hIx _ _ _ _ hp.2 h6,h4,h5⟩⟩
   |exit id=>
    obtain⟨W4,hr,h4,h5,h6,h7⟩:=fin (some (.exit id)) W3 hp.1;exact⟨_,_,hr,.inr ⟨rfl,.exit id,hIx _ _ _ _ hp.2 h6,h4,h5⟩⟩
   |goto t=>
    obtain⟨W4,hr,h4,h5,h6,h7⟩:=fin (some (.goto t)) W3 hp.1;exact⟨_,_,hr,.inr ⟨rfl,.goto t,hIx _ _ _ _ hp.2 h6,h4,h5⟩⟩
   |panic ch=>exact hp.elim
   |outgrown=>exact hp.elim
  ·rintro e W2 ⟨⟨v,rfl⟩,(⟨xs,hS,hi,hl,hk⟩|⟨pre,hSp,c,hi,hl,hk⟩)⟩
   ·exact⟨none,_,by have:=run_endLoop (P:=P) hl (by rw[hrec];simp);rw[hrec] at this;exact this,hdone _ xs _ (af _) hS (hI _ _ _ hi (aaw _ hl (by omega))) ((World.putObj_heap_other (by omega)).trans hk)⟩
   ·exact⟨some c,_,by have:=run_endLoop (P:=P) hl (by rw[hrec];simp);rw[hrec] at this;exact this,hstop _ c pre _ (af _) hSp (hIx _ _ _ _ hi (aaw _ hl (by omega))) ((World.putObj_heap_other (by omega)).trans hk)⟩
theorem ajX{α:Type}{g:Operand}{ps:Array Tmp}{assign body:Code}{Q:Exit->Act->World->Prop}{a:Act}{w:World}
 (hro:F.round=none) (h1:1<=n) {gf:Nat} {lb:Array Value} (hg:a.eval g= .func (.func gf) #[] lb) (hFg:F.fn gf) (eg:∀args w,(callFunc gf args).run P w= .ok (.enter gf args) w)
 {aM:Nat} {inv:World->Prop} {may:List α->α->Array Value->World->Prop} {S Sp:List α->Prop} {w0:World} (hseq:awK F (n-1) P gf lb aM inv may S Sp w0)
 (hb0:Below w0.heap.size w0 w) (hn₀:aM<=w.heap.size) (hps:∀pre x vs W,may pre x vs W->vs.size=ps.size) (hmay:∀pre x vs W W',may pre x vs W->Below aM W W'->may pre x vs W')
 (I:List α->World->Prop) (Ix:Code->List α->World->Prop) (hI:aaC w.heap.size I) (hIx:∀c,aaC w.heap.size (Ix c)) (h0:I [] w) (hinv:∀pre W,I pre W->inv W)
 (Ax:Act->α->Array Value->Act->World->Prop) (hAx:∀x vs a' W (l:Nat) (o o':Obj),w.heap.size<=l->W.heap[l]? =some o->o.isCells=false->Ax a x vs a' W->Ax a x vs a' (W.putObj l o'))
 (hassign:∀(l:Nat) (pre:List α) (x:α) (vs:Array Value) (W:World) (K:Act->World->Prop),w.heap.size<=W.heap.size->I pre W->may pre x vs W->
  (∀a' W',Kept aM w.heap.size W W'->I pre W'->Ax a x vs a' W'->K a' W')->
  assign.wpIn (F.inRound l) (n-1-1) P (Exit.then K (fun _ _ _=>False)) { tmps:=(ps.zip vs).foldl (fun t (p,v)=>t.setIfInBounds p v) a.tmps,defers:=[]} W)
 (hbody:∀(l:Nat) (pre:List α) (x:α) (vs:Array Value) (a':Act) (W:World),w.heap.size<=W.heap.size->I pre W->may pre x vs W->Ax a x vs a' W->body.wpIn (F.inRound l) (n-1-1) P (atz aM w.heap.size I Ix (pre++[x]) W) a' W)
 (hdone:∀(D:Nat) (xs:List α) (W:World),w.heap.size<=D->S xs->I xs W->W.heap[D]? =some (.deferred (some []))->Q .normal { a with defers:={ target:= .collected D,args:=#[]}::a.defers} W)
 (hstop:∀(D:Nat) (c:Code) (pre:List α) (W:World),w.heap.size<=D->Sp pre->Ix c pre W->W.heap[D]? =some (.deferred (some []))->c.wpIn F n P Q { a with defers:={ target:= .collected D,args:=#[]}::a.defers} W):
 (Code.rangeFunc g ps assign body).wpIn F n P Q a w:=
 alq hro h1 hg hFg eg hseq hb0 hn₀ hps hmay I Ix hI hIx h0 hinv (Ax a) hAx hassign hbody hdone hstop
theorem abI{b:Frame}{a:Act}{k:List Item}{cs:List Frame}{w:World}{c:Code}:step P (lone (b.atR a (.code (.scope c)::k)) cs w)= .next (lone (b.atR a (.code c:: .inScope c::k)) cs w):=
 step_lone_go (by simp[stepG,stepG.exec,Frame.atR])
theorem aiO{b:Frame}{a:Act}{k:List Item}{cs:List Frame}{w:World}{c:Code}:step P (lone (b.atR a (.inScope c::k)) cs w)= .next (lone (b.atR a k) cs w):=
 step_lone_go (by simp[stepG,stepG.exec,Frame.atR])
theorem anz{Q:Exit->Act->World->Prop}{a:Act}{w:World}{c:Code}(h:c.wpIn F n P (Exit.noGoto Q) a w):(Code.scope c).wpIn F n P Q a w:=by
 intro b k cs hro hb hr;have h0:(lone (b.atR a (.code (.scope c)::k)) cs w).fenced P F:=fenced_calm hb hr rfl;obtain⟨e,aO,w₁,hq,harr⟩:=h b (.inScope c::k) cs hro hb hr;cases e with
 |normal=>exact⟨.normal,aO,w₁,hq,.head h0 abI (StepsIn.trans harr (.one (fenced_calm hb hr rfl) aiO))⟩
 |exit id=>
  have hx:exitTo id (.inScope c::k)=exitTo id k:=by simp[exitTo]
  exact⟨.exit id,aO,w₁,hq,fun k' hk=> .head h0 abI (harr.1 k' (by rw[hx];exact hk)),
   fun hr' hk=>let⟨k₁,h1,h2⟩:=harr.2 hr' (by rw[hx];exact hk);⟨k₁,h1,.head h0 abI h2⟩⟩
 |goto l=>exact hq.elim
 |ret=>exact⟨_,aO,w₁,hq,.of_steps (.one h0 abI) harr⟩
 |panic ch=>exact⟨_,aO,w₁,hq,.of_steps (.one h0 abI) harr⟩
 |outgrown=>exact⟨_,aO,w₁,hq,.of_steps (.one h0 abI) harr⟩
end Go.Proofs.YtabfapijgfjflaaGreat
namespace Go.Proofs.YtabfapijgfjflaaGreat
open Go.RowKit
abbrev tm(h:Int)(a:Option Addr)(k c:Nat):Value:= .agg #[.int .i64 h,.slice a k c]
abbrev aaa(h:Int)(a:Option Addr)(k c:Nat):Obj:= .cells #[.int .i64 h,.slice a k c] 60
theorem abP(h:Int)(a:Option Addr)(k c:Nat)(w:World):
 Calls Tryz.prog 179 #[tm h a k c] w fun e w'=>e= .returned (.bool (decide (h<0)))/\w'=w.alloc (aaa h a k c):=by
 go_enter Tryz.func179,Tryz.ntmps179;go_wp2;go_ret;exact⟨rfl,rfl⟩
theorem ajY(h:Int)(a:Option Addr)(k c:Nat)(w:World)(h1: -9223372036854775808<=h)(h2:h<0):
 Calls Tryz.prog 180 #[tm h a k c] w fun e w'=>e= .returned (.int .i64 (-1-h))/\w'=w.alloc (aaa h a k c):=by
 go_enter Tryz.func180,Tryz.ntmps180;go_wp2;go_ret;exact⟨rfl,rfl⟩
theorem af4(h:Int)(a:Option Addr)(k c:Nat)(w:World):
 Calls Tryz.prog 32 #[.int .i64 h,.slice a k c] w fun e w'=>e= .returned (tm h a k c)/\Below w.heap.size w w':=by
 go_enter Tryz.func32,Tryz.ntmps32;go_wp2;exact bodyPost_ret (v:=tm h a k c) (by simp[results,Tryz.results32,go_sem]) rfl ⟨rfl,((ag _ _).alloc (af _) _)⟩
theorem afm(h:Int)(a:Option Addr)(k c:Nat)(w:World):
 Calls Tryz.prog 141 #[tm h a k c] w fun e w'=>e= .returned (.func (.func 178) #[] #[.pointer (some ⟨w.heap.size,0,none⟩)])/\w'=w.alloc (aaa h a k c):=by
 go_enter Tryz.func141,Tryz.ntmps141;go_wp2;go_ret;exact⟨rfl,rfl⟩
def okB(h:Int)(k:Nat):Bool:=if h<0 then decide (k=0)&&decide (-1-h<=255) else decide (h<=1023)&&decide (k<=8)
theorem alr(h:Int)(a:Option Addr)(k c:Nat)(w:World)(h1: -9223372036854775808<=h):
 Calls Tryz.prog 142 #[tm h a k c] w fun e w'=>e= .returned (.bool (okB h k))/\Below w.heap.size w w':=by
 by_cases hh:h<0
 ·by_cases hk:k=0
  ·subst hk;have hb:decide (h<0)=true:=by simpa using hh
   go_enter Tryz.func142,Tryz.ntmps142
   go_wp2_with (first|(go_at_call 179;refine(abP _ _ _ _ _).mono ?_;rintro e w' ⟨rfl,rfl⟩)|(go_at_call 180;refine(ajY _ _ _ _ _ h1 hh).mono ?_;rintro e w' ⟨rfl,rfl⟩))
   go_ret;refine⟨?_,?_⟩
   ·simp[okB,hh]
   ·exact(((ag _ _).alloc (af _) _).alloc (by simp) _).alloc (by simp;omega) _
  ·have hb:decide (h<0)=true:=by simpa using hh
   have hk':((k:Int)==0)=false:=by simpa using hk
   go_enter Tryz.func142,Tryz.ntmps142
   go_wp2_with (go_at_call 179;refine(abP _ _ _ _ _).mono ?_;rintro e w' ⟨rfl,rfl⟩)
   go_ret;refine⟨?_,?_⟩
   ·simp[okB,hh,hk]
   ·exact((ag _ _).alloc (af _) _).alloc (by simp) _
 ·have hb:decide (h<0)=false:=by simpa using hh
  by_cases hm:h<=1023
  ·have hm':decide (h<=1023)=true:=by simpa using hm
   go_enter Tryz.func142,Tryz.ntmps142
   go_wp2_with (go_at_call 179;refine(abP _ _ _ _ _).mono ?_;rintro e w' ⟨rfl,rfl⟩)
   go_ret;refine⟨?_,?_⟩
   ·rw[okB,if_neg (by omega),decide_eq_true hm];simp;omega
   ·exact((ag _ _).alloc (af _) _).alloc (by simp) _
  ·have hm':decide (h<=1023)=false:=by simpa using hm
   go_enter Tryz.func142,Tryz.ntmps142
   go_wp2_with (go_at_call 179;refine(abP _ _ _ _ _).mono ?_;rintro e w' ⟨rfl,rfl⟩)
   go_ret;refine⟨?_,?_⟩
   ·rw[okB,if_neg (by omega)];simp;omega
   ·exact((ag _ _).alloc (af _) _).alloc (by simp) _
end Go.Proofs.YtabfapijgfjflaaGreat
