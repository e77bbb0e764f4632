import Derived.Test.YtabfapijgfjflaaGreatMQBh
import Derived.Test.YtabfapijgfjflaaGreatMQBa
import Derived.Test.YtabfapijgfjflaaGreatMQBd
import Derived.Test.YtabfapijgfjflaaGreatMQBk
import Derived.Test.YtabfapijgfjflaaGreatMQBc
import Derived.Test.YtabfapijgfjflaaGreatMQBb
import Derived.Maps.OwnSet
import Derived.Test.YtabfapijgfjflaaGreatMAl
set_option linter.unusedVariables false
set_option linter.unusedSimpArgs false
set_option linter.unusedSectionVars false
set_option maxRecDepth 100000
set_option maxHeartbeats 4000000
namespace Go.Proofs.YtabfapijgfjflaaGreat
open Go.RowKit
mutual
theorem atZ{aM:Nat}{w:World}:(t:T)->∀{t':T} {b o:Nat},IsT aM w t b o->IsT aM w t' b o->t=t'
 | .node h ts,.node h' ts',b,o,h1,h2=>by
   simp only[IsT] at h1 h2;obtain⟨_,p1,a,c,p2,_,_,p3⟩:=h1;obtain⟨_,q1,a',c',q2,_,_,q3⟩:=h2;rw[p1] at q1;rw[p2] at q2;simp at q1 q2;obtain⟨e1,e2,e3⟩:=q2;subst e1
   have hts:ts=ts':=by
    rcases p3 with rfl|⟨b1,o1,rfl,_,r1⟩
    ·exact(aC (by simpa using e2.symm)).symm
    ·rcases q3 with rfl|⟨b2,o2,e,_,r2⟩
     ·exact aC (by simpa using e2)
     ·cases e;exact agF ts e2 r1 r2
   rw[q1,hts]
theorem agF{aM:Nat}{w:World}:(ts:List T)->∀{ts':List T} {b o:Nat},ts.length=ts'.length->aar aM w ts b o->aar aM w ts' b o->ts=ts'
 |[],[],_,_,_,_,_=>rfl
 |[],_::_,_,_,h,_,_=>by simp at h
 |_::_,[],_,_,h,_,_=>by simp at h
 |t::ts,t'::ts',b,o,hl,h1,h2=>by
  simp only[aar] at h1 h2;rw[atZ t h1.1 h2.1,agF ts (by simpa using hl) h1.2 h2.2]
end
def Blk(w:World)(b:Nat):Prop:=∃cur,w.heap[b]? =some (.cells cur 60 (0,0))
theorem Blk.lt{w:World}{b:Nat}(h:Blk w b):b<w.heap.size:=by obtain⟨cur,h⟩:=h;exact(aj.1 h).1
theorem Blk.block{w w':World}{b:Nat}(h:Blk w b)(e:w'.heap[b]? =w.heap[b]?):Blk w' b:=by obtain⟨cur,h⟩:=h;exact⟨cur,e.trans h⟩
theorem Blk.setCell{w:World}{b b' o:Nat}{u:Value}(h:Blk w b):Blk (w.setCell ⟨b',o,none⟩ u) b:=by
 by_cases e:b=b'
 ·subst e;obtain⟨cur,h⟩:=h;exact⟨_,heap_setCell_same h u⟩
 ·exact h.block (an _ _ _ _ e)
theorem Blk.frozen{w:World}{b o:Nat}(h:Blk w b):w.frozen? ⟨b,o,none⟩=false:=by obtain⟨cur,h⟩:=h;simp[World.frozen?,h]
mutual
def NT(aM lo:Nat)(w:World)(old:Nat->Nat->Prop):T->Nat->Nat->Prop
 | .node h ts,b,j=>(Lit.int .i64 h).wf=true/\w.cell? ⟨b,j*2,none⟩=some (.int .i64 h)/\∃a c,w.cell? ⟨b,j*2+1,none⟩=some (.slice a ts.length c)/\ts.length<=c/\c<=maxLen/\
  ((old b j/\(ts=[]\/∃b' o',a=some ⟨b',o',none⟩/\b'<aM/\aar aM w ts b' o'))\/(¬old b j/\(ts=[]\/∃b',a=some ⟨b',0,none⟩/\lo<=b'/\Blk w b'/\ah4 aM lo w old ts b' 0)))
def ah4(aM lo:Nat)(w:World)(old:Nat->Nat->Prop):List T->Nat->Nat->Prop
 |[],_,_=>True
 |t::ts,b,j=>NT aM lo w old t b j/\ah4 aM lo w old ts b (j+1)
end
theorem ai8{aM lo:Nat}{w:World}{old:Nat->Nat->Prop}{g:Nat}:(ts:List T)->∀{j:Nat},(∀j',j<=j'->j'<j+ts.length->old g j')->aar aM w ts g (j*2)->ah4 aM lo w old ts g j
 |[],j,_,_=>by simp[ah4]
 | .node h us::ts,j,ho,hr=>by
   simp only[aar,IsT] at hr;obtain⟨⟨h1,h2,a,c,h3,h4,h5,h6⟩,hr⟩:=hr;simp only[ah4,NT];exact⟨⟨h1,h2,a,c,h3,h4,h5,.inl ⟨ho j (af _) (by simp),h6⟩⟩,ai8 ts (fun j' h1 h2=>ho j' (by omega) (by simp;omega)) (by rw[show(j+1)*2=j*2+2 from by omega];exact hr)⟩
mutual
theorem at0{aM lo:Nat}{w:World}{old:Nat->Nat->Prop}(ho:∀b j,¬old b j):(t:T)->∀{b j:Nat},NT aM lo w old t b j->aho (fun b=>lo<=b/\Blk w b) w t b (j*2)
 | .node h ts,b,j,hn=>by
   simp only[NT] at hn;obtain⟨h1,h2,a,c,h3,h4,h5,h6⟩:=hn;simp only[aho];refine⟨h1,h2,a,c,h3,h4,h5,?_⟩
   rcases h6 with⟨h6,_⟩|⟨_,h6⟩
   ·exact absurd h6 (ho b j)
   ·exact h6.imp id fun⟨b',e,hl,hb,hr⟩=>⟨b',0,e,⟨hl,hb⟩,agG ho ts hr⟩
theorem agG{aM lo:Nat}{w:World}{old:Nat->Nat->Prop}(ho:∀b j,¬old b j):(ts:List T)->∀{b j:Nat},ah4 aM lo w old ts b j->aav (fun b=>lo<=b/\Blk w b) w ts b (j*2)
 |[],b,j,_=>by simp[aav]
 |t::ts,b,j,hn=>by
  simp only[ah4] at hn;simp only[aav];have:=agG ho ts hn.2;rw[show(j+1)*2=j*2+2 from by omega] at this;exact⟨at0 ho t hn.1,this⟩
end
def agH(old:Nat->Nat->Prop)(b i:Nat)(a2:Option Addr)(us:List T)(b0 j0:Nat):Prop:=(old b0 j0/\¬(b0=b/\j0=i))\/(j0<us.length/\a2=some ⟨b0,0,none⟩)
section
variable {aM lo:Nat} {wr w4 w5:World} {old:Nat->Nat->Prop} {b i:Nat} {s:T} {a2:Option Addr} {c2:Nat}
 (hold:old b i) (hbn:aM<=b) (hbr:b<wr.heap.size) (hlo:lo<=wr.heap.size) (hB:Below wr.heap.size wr w4) (hn:aM<=wr.heap.size)
 (hs:IsT aM wr s b (i*2)) (hN:af9 aM wr.heap.size w4 s.args a2 c2) (he:w5=w4.setCell ⟨b,i*2+1,none⟩ (.slice a2 s.args.length c2))
include hold hbn hbr hlo hB hn hs hN he
mutual
theorem at1:(t:T)->∀{b0 j0:Nat},NT aM lo wr old t b0 j0->NT aM lo w5 (agH old b i a2 s.args) t b0 j0
 | .node h ts,b0,j0,hnt=>by
   simp only[NT] at hnt ⊢;obtain⟨h1,h2,a,c,h3,h4,h5,h6⟩:=hnt;have hb0:b0<wr.heap.size:=World.block_lt_of_cell? wr ⟨b0,j0*2,none⟩ h2
   have hother:∀o,¬(b0=b/\o=i*2+1)->w5.cell? ⟨b0,o,none⟩=wr.cell? ⟨b0,o,none⟩:=fun o ho=>by
    rw[he,World.cell?_setCell_other _ _ _ _ (by intro e;simp at e;exact ho ⟨e.1.symm,e.2.symm⟩),hB.cell (p:=⟨b0,o,none⟩) hb0]
   have hkeep:∀k,k<aM->w5.heap[k]? =wr.heap[k]? :=fun k hk=>by
    rw[he,an _ _ _ _ (by simp;omega),hB.block k (by omega)]
   have hkr:∀{us:List T} {b' o':Nat},b'<aM->aar aM wr us b' o'->aar aM w5 us b' o':=fun{us b' o'} hb' hr=>
    (aaF us).1 (aav.keep hkeep (fun _ h=>h) us (hkeep b' hb') ((aaF us).2 hr))
   have hfresh:∀b1 j1,b1<wr.heap.size->¬(j1<s.args.length/\a2=some ⟨b1,0,none⟩):=fun b1 j1 hb1 ⟨hne,e⟩=>by
    rcases hN.2.2 with h|⟨g,cur,h7,h8,_⟩
    ·rw[h] at hne;simp at hne
    ·rw[e] at h7;simp at h7<;>omega
   by_cases hme:b0=b/\j0=i
   ·obtain⟨rfl,rfl⟩:=hme;obtain⟨_,q1,a',c',q2,hA⟩:=aaO.1 hs;rw[h3] at q2;simp at q2;obtain⟨e1,e2,e3⟩:=q2;subst e1
    rcases h6 with⟨_,h6⟩|⟨h6,_⟩
    ·have hts:ts=s.args:=by
      rcases h6 with rfl|⟨b',o',rfl,_,hr⟩
      ·exact(aC (by simpa using e2.symm)).symm
      ·rcases hA.2.2 with h|⟨b2,o2,e,_,hr2⟩
       ·rw[h] at e2 ⊢;exact aC (by simpa using e2)
       ·cases e;exact agF ts e2 hr hr2
     subst hts
     have hcell:w5.cell? ⟨b0,j0*2+1,none⟩=some (.slice a2 s.args.length c2):=by
      rw[he];exact World.cell?_setCell_same' _ _ _ (by rw[(hB.cell (p:=⟨b0,j0*2+1,none⟩) hb0).trans h3];rfl)
     refine⟨h1,(hother _ (by omega)).trans h2,a2,c2,hcell,hN.1,hN.2.1,.inr ⟨?_,?_⟩⟩
     ·rintro(h|h)
      ·exact h.2 ⟨rfl,rfl⟩
      ·exact hfresh b0 j0 hb0 h
     ·rcases hN.2.2 with h|⟨g,cur,h7,h8,h9,h10,h11⟩
      ·exact .inl h
      ·by_cases hnil:s.args=[]
       ·exact .inl hnil
       ·refine .inr ⟨g,h7,by omega,by rw[he];exact Blk.setCell ⟨cur,h9⟩,ai8 s.args (fun j _ hj=> .inr ⟨by simpa using hj,h7⟩) ?_⟩;have hk4:∀k,k<aM->w5.heap[k]? =w4.heap[k]? :=fun k hk=>by rw[he,an _ _ _ _ (by simp;omega)]
        have:aar aM w5 s.args g 0:=(aaF s.args).1 (aav.keep hk4 (fun _ h=>h) s.args (by rw[he,an _ _ _ _ (by simp;omega)]) ((aaF s.args).2 h11));simpa using this
    ·exact absurd hold h6
   ·refine⟨h1,(hother _ (by omega)).trans h2,a,c,(hother _ (by intro e;exact hme ⟨e.1,by omega⟩)).trans h3,h4,h5,?_⟩
    rcases h6 with⟨ho,h6⟩|⟨ho,h6⟩
    ·exact .inl ⟨.inl ⟨ho,hme⟩,h6.imp id fun⟨b',o',e,hb',hr⟩=>⟨b',o',e,hb',hkr hb' hr⟩⟩
    ·refine .inr ⟨?_,h6.imp id fun⟨b',e,hl,hbk,hr⟩=>⟨b',e,hl,?_,agI ts hr⟩⟩
     ·rintro(h|h)
      ·exact ho h.1
      ·exact hfresh b0 j0 hb0 h
     ·rw[he];exact Blk.setCell (hbk.block (hB.block b' hbk.lt))
theorem agI:(ts:List T)->∀{b0 j0:Nat},ah4 aM lo wr old ts b0 j0->ah4 aM lo w5 (agH old b i a2 s.args) ts b0 j0
 |[],b0,j0,_=>by simp[ah4]
 |t::ts,b0,j0,hn'=>by
  simp only[ah4] at hn' ⊢;exact⟨at1 t hn'.1,agI ts hn'.2⟩
end
end
mutual
theorem avr{aM lo:Nat}{w:World}{old old':Nat->Nat->Prop}(h:∀b j,old b j↔old' b j):(t:T)->∀{b j:Nat},NT aM lo w old t b j->NT aM lo w old' t b j
 | .node x ts,b,j,hn=>by
   simp only[NT] at hn ⊢;obtain⟨h1,h2,a,c,h3,h4,h5,h6⟩:=hn;refine⟨h1,h2,a,c,h3,h4,h5,?_⟩
   rcases h6 with⟨h6,h7⟩|⟨h6,h7⟩
   ·exact .inl ⟨(h b j).1 h6,h7⟩
   ·exact .inr ⟨fun e=>h6 ((h b j).2 e),h7.imp id fun⟨b',e,hl,hb,hr⟩=>⟨b',e,hl,hb,adH h ts hr⟩⟩
theorem adH{aM lo:Nat}{w:World}{old old':Nat->Nat->Prop}(h:∀b j,old b j↔old' b j):(ts:List T)->∀{b j:Nat},ah4 aM lo w old ts b j->ah4 aM lo w old' ts b j
 |[],b,j,_=>by simp[ah4]
 |t::ts,b,j,hn=>by
  simp only[ah4] at hn ⊢;exact⟨avr h t hn.1,adH h ts hn.2⟩
end
mutual
theorem arJ{aM lo:Nat}{w w':World}{old:Nat->Nat->Prop}(h:∀b,(b<aM\/Blk w b)->w'.heap[b]? =w.heap[b]?):(t:T)->∀{b j:Nat},Blk w b->NT aM lo w old t b j->NT aM lo w' old t b j
 | .node x ts,b,j,hb,hn=>by
   simp only[NT] at hn ⊢;obtain⟨h1,h2,a,c,h3,h4,h5,h6⟩:=hn;have hbb:=h b (.inr hb);refine⟨h1,(aq (a:=⟨b,j*2,none⟩) hbb).trans h2,a,c,(aq (a:=⟨b,j*2+1,none⟩) hbb).trans h3,h4,h5,?_⟩
   rcases h6 with⟨h6,h7⟩|⟨h6,h7⟩
   ·exact .inl ⟨h6,h7.imp id fun⟨b',o',e,hl,hr⟩=>⟨b',o',e,hl,(aaF ts).1 (aav.keep (fun k hk=>h k (.inl hk)) (fun _ h=>h) ts (h b' (.inl hl)) ((aaF ts).2 hr))⟩⟩
   ·exact .inr ⟨h6,h7.imp id fun⟨b',e,hl,hk,hr⟩=>⟨b',e,hl,hk.block (h b' (.inr hk)),ae0 h ts hk hr⟩⟩
theorem ae0{aM lo:Nat}{w w':World}{old:Nat->Nat->Prop}(h:∀b,(b<aM\/Blk w b)->w'.heap[b]? =w.heap[b]?):(ts:List T)->∀{b j:Nat},Blk w b->ah4 aM lo w old ts b j->ah4 aM lo w' old ts b j
 |[],b,j,_,_=>by simp[ah4]
 |t::ts,b,j,hb,hn=>by
  simp only[ah4] at hn ⊢;exact⟨arJ h t hb hn.1,ae0 h ts hb hn.2⟩
end
theorem ac5{aM:Nat}{w:World}{b p:Nat}{u:Value}(hb:aM<=b):(ts:List T)->∀{o:Nat},p<o->aar aM w ts b o->aar aM (w.setCell ⟨b,p,none⟩ u) ts b o
 |[],o,_,_=>by simp[aar]
 | .node h us::ts,o,hp,hr=>by
   simp only[aar,IsT] at hr ⊢;obtain⟨⟨h1,h2,a,c,h3,h4,h5,h6⟩,hr⟩:=hr;have hk:∀k,k<aM->(w.setCell ⟨b,p,none⟩ u).heap[k]? =w.heap[k]? :=fun k hk=>an _ _ _ _ (by simp;omega);refine⟨⟨h1,?_,a,c,?_,h4,h5,?_⟩,ac5 hb ts (by omega) hr⟩
   ·rw[World.cell?_setCell_other _ _ _ _ (by intro e;simp at e<;>omega)];exact h2
   ·rw[World.cell?_setCell_other _ _ _ _ (by intro e;simp at e<;>omega)];exact h3
   ·exact h6.imp id fun⟨b',o',e,hl,hr⟩=>⟨b',o',e,hl,(aaF us).1 (aav.keep hk (fun _ h=>h) us (hk b' hl) ((aaF us).2 hr))⟩
theorem abx{aM:Nat}{w w':World}{ts:List T}{b o:Nat}(h:∀k,k<aM->w'.heap[k]? =w.heap[k]?)(hb:w'.heap[b]? =w.heap[b]?)(hr:aar aM w ts b o):aar aM w' ts b o:=
 (aaF ts).1 (aav.keep h (fun _ h=>h) ts hb ((aaF ts).2 hr))
theorem abd{w:World}{base:Nat}{e:TypeId}{size:Nat}{v:Value}{n:Nat}{xs:List Value}(h:w.ownsRow base e size v n xs){b o:Nat}(hne:v.ownBlock≠some b)(u:Value):(w.setCell ⟨b,o,none⟩ u).ownsRow base e size v n xs:=
 h.kept (row:=some b) ⟨rfl,rfl,rfl,by simp,fun k hk hn=>an _ _ _ _ (fun e=>hn (by rw[e]))⟩ (.inr hne)
theorem ownsRow_pop{w:World}{base:Nat}{e:TypeId}{g n cap:Nat}{xs:List Value}{x:Value}(h:w.ownsRow base e 1 (.slice (some ⟨g,0,none⟩) (n+1) cap) (n+1) (xs++[x])):w.ownsRow base e 1 (.slice (some ⟨g,0,none⟩) n cap) n xs:=by
 obtain⟨h1,h2⟩:=h;refine⟨by simp at h1;omega,?_⟩
 rcases h2 with⟨h2,_⟩|⟨g',cap',cur,h2,h3,h4,h5,h6,h7,h8⟩
 ·cases h2
 ·cases h2;refine .inr ⟨g,cap,cur,rfl,h3,h4,by omega,h6,h7,?_⟩;have:(cur.toList.take ((n+1)*1)).take (n*1)=(xs++[x]).take (n*1):=by rw[h8]
  rw[List.take_take] at this;rw[show min (n*1) ((n+1)*1)=n*1 from by omega] at this;rw[this,List.take_append_of_le_length (by simp at h1;omega),List.take_of_length_le (by simp at h1;omega)]
abbrev alK:=List (Nat×Nat×List T)
def ads(S:alK):List Value:=S.map fun e=> .slice (some ⟨e.1,0,none⟩) e.2.2.length e.2.1
def anP(S:alK):Nat:=(S.map fun e=>T.sizes e.2.2).sum
def Ent(aM lo:Nat)(w:World)(e:Nat×Nat×List T):Prop:=lo<=e.1/\Blk w e.1/\aar aM w e.2.2 e.1 0/\e.2.2.length<=e.2.1/\e.2.1<=maxLen/\e.2.2≠[]
def anQ(S:alK):List Nat:=S.map (·.1)
def as6(S:alK)(b j:Nat):Prop:=∃e∈S,e.1=b/\j<e.2.2.length
theorem akr{S:alK}{b j:Nat}(h:as6 S b j):b∈anQ S:=by obtain⟨e,he,rfl,_⟩:=h;exact List.mem_map_of_mem (f:=(·.1)) he
structure CpS (aM:Nat) (w w2:World) (t:T) (st:Value) (S:alK) (wr:World) (old:Nat->Nat->Prop):Prop where
 own:wr.ownsRow (w.heap.size+3) 58 1 st S.length (ads S)
 ents:∀e∈S,Ent aM (w.heap.size+2) wr e
 nodup:(anQ S).Nodup
 root:Blk wr (w.heap.size+2)
 row:ah4 aM (w.heap.size+2) wr old [t] (w.heap.size+2) 0
 below:Below (w.heap.size+2) w2 wr
theorem Blk.not_own{w:World}{b base size n:Nat}{v:Value}{xs:List Value}(h:Blk w b)(ho:w.ownsRow base 58 size v n xs):v.ownBlock≠some b:=by
 intro e
 rcases ho.2 with⟨rfl,_⟩|⟨g,cap,cur,rfl,_,hh,_⟩
 ·cases e
 ·simp[Value.ownBlock] at e;subst e;obtain⟨cur',h⟩:=h;rw[hh] at h;simp at h
theorem akt{aM:Nat}{w w2:World}{t s:T}{st:Value}{S:alK}{wr w4:World}{old:Nat->Nat->Prop}{g k:Nat}{a2:Option Addr}{c2:Nat}(h:CpS aM w w2 t st S wr old)(hn:aM<=w.heap.size)(hlo:w.heap.size+2<=g)(hbg:Blk wr g)(hgS:g∉anQ S)
 (hold:old g k) (hs:IsT aM wr s g (k*2)) (hB:Below wr.heap.size wr w4) (hN:af9 aM wr.heap.size w4 s.args a2 c2) (hsz:w.heap.size+2<=wr.heap.size):
 CpS aM w w2 t st S (w4.setCell ⟨g,k*2+1,none⟩ (.slice a2 s.args.length c2)) (agH old g k a2 s.args):=by
 have hne:=hbg.not_own h.own;refine⟨abd (aaM h.own hB) hne _,?_,h.nodup,(h.root.block (hB.block _ h.root.lt)).setCell,?_,?_⟩
 ·intro e he;obtain⟨h1,h2,h3,h4⟩:=h.ents e he;have hneq:e.1≠g:=fun hh=>hgS (hh▸List.mem_map_of_mem (f:=(·.1)) he);have hbk:(w4.setCell ⟨g,k*2+1,none⟩ (.slice a2 s.args.length c2)).heap[e.1]? =wr.heap[e.1]? :=(an _ _ _ _ hneq).trans (hB.block _ h2.lt);exact⟨h1,h2.block hbk,abx (fun k hk=>(an _ _ _ _ (by simp;omega)).trans (hB.block k (by omega))) hbk h3,h4⟩
 ·exact agI hold (by omega) hbg.lt (by omega) hB (by omega) hs hN rfl [t] h.row
 ·exact(h.below.trans (hB.mono hsz)).setCell (p:=⟨g,k*2+1,none⟩) hlo _
theorem arK{aM:Nat}{w w2:World}{t:T}{st st':Value}{S:alK}{w5 w7:World}{old old':Nat->Nat->Prop}{us:List T}{g2 c2:Nat}{ob:Obj}(h:CpS aM w w2 t st S w5 old)(hn:aM<=w.heap.size)(hsz:w.heap.size+3<=w5.heap.size)
 (hE:Ent aM (w.heap.size+2) w5 (g2,c2,us)) (hg2:g2∉anQ S) (hown:w7.ownsRow (w.heap.size+3) 58 1 st' (S.length+1) (ads S++[.slice (some ⟨g2,0,none⟩) us.length c2])) (hgr:(w5.alloc ob).grownBy w7 st.ownBlock)
 (hold:∀b j,old b j↔old' b j):CpS aM w w2 t st' (S++[(g2,c2,us)]) w7 old'/\(∀b,(b<aM\/Blk w5 b)->w7.heap[b]? =w5.heap[b]?)/\w5.heap.size<=w7.heap.size:=by
 have hlt:=h.own.lt
 have hkeep:∀b,(b<aM\/Blk w5 b)->w7.heap[b]? =w5.heap[b]? :=by
  intro b hb;have hbs:b<w5.heap.size:=by rcases hb with hb|hb;omega;exact hb.lt
  have hne:st.ownBlock≠some b:=by
   rcases hb with hb|hb
   ·intro e;have:=hlt b e;omega
   ·exact hb.not_own h.own
  exact(hgr.block b (by simp;omega) (fun e=>hne e.symm)).trans (az _ _ _ hbs)
 have hent:∀e,Ent aM (w.heap.size+2) w5 e->Ent aM (w.heap.size+2) w7 e:=fun e ⟨h1,h2,h3,h4⟩=>
  ⟨h1,h2.block (hkeep _ (.inr h2)),abx (fun k hk=>hkeep k (.inl hk)) (hkeep _ (.inr h2)) h3,h4⟩
 refine⟨⟨by simpa[ads] using hown,?_,?_,h.root.block (hkeep _ (.inr h.root)),adH hold [t] (ae0 hkeep [t] h.root h.row),?_⟩,hkeep,?_⟩
 ·intro e he
  rcases aG.1 he with he|he
  ·exact hent e (h.ents e he)
  ·rw[List.mem_singleton.1 he];exact hent _ hE
 ·simp only[anQ,List.map_append,List.map_cons,List.map_nil];rw[List.nodup_append];refine⟨h.nodup,by simp,?_⟩;intro a ha b hb;simp at hb;subst hb;intro e;subst e;exact hg2 ha
 ·exact(h.below.alloc (by omega) ob).grown hgr (by simp;omega) (fun k hk=>by have:=hlt k hk;omega)
 ·have:=hgr.size;simp at this;omega
def awB(aM:Nat)(w w2:World)(t:T)(g:Nat)(ts:List T)(M:Nat)(st i:Value)(wr:World):Prop:=
 ∃(k:Nat) (S:alK),k<=ts.length/\i= .int .i64 k/\CpS aM w w2 t st S wr (fun b j=>as6 S b j\/(b=g/\k<=j/\j<ts.length))/\g∉anQ S/\Blk wr g/\aar aM wr (ts.drop k) g (k*2)/\anP S+T.sizes (ts.drop k)+k<=M/\w.heap.size+4<=wr.heap.size
theorem aes(S:alK)(e:Nat×Nat×List T):anP (S++[e])=anP S+T.sizes e.2.2:=by simp[anP]
theorem adU{aM lo:Nat}{w:World}(S:alK)(h:∀e∈S,Ent aM lo w e):S.length<=anP S:=by
 induction S with
 |nil=>simp[anP]
 |cons e S ih=>
  have h1:=ih (fun e he=>h e (aH _ he));have h2:=(h e (List.mem_cons_self ..)).2.2.2.2.2;have h3:=T.sizes_ge_length e.2.2;have h4:0<e.2.2.length:=List.length_pos_iff.2 h2;simp[anP] at h1 ⊢;omega
theorem arL{aM:Nat}{w w2:World}{t s:T}{st:Value}{S:alK}{wr w4:World}{g k M:Nat}{ts:List T}{a2:Option Addr}{c2:Nat}(h:CpS aM w w2 t st S wr (fun b j=>as6 S b j\/(b=g/\k<=j/\j<ts.length)))(hn:aM<=w.heap.size)(hlo:w.heap.size+2<=g)(hbg:Blk wr g)(hgS:g∉anQ S)
 (hs:ts[k]? =some s) (hrow:aar aM wr (ts.drop k) g (k*2)) (hB:Below wr.heap.size wr w4) (hN:af9 aM wr.heap.size w4 s.args a2 c2) (hsz:w.heap.size+4<=wr.heap.size) (hM:anP S+T.sizes (ts.drop k)+k<=M) (hnil:s.args=[]):
 awB aM w w2 t g ts M st (.int .i64 ((k+1:Nat):Int)) (w4.setCell ⟨g,k*2+1,none⟩ (.slice a2 s.args.length c2)):=by
 obtain⟨hk,_⟩:=ah.1 hs
 have hst:IsT aM wr s g (k*2):=by
  have:=hrow.at (i:=0) (t:=s) (by simpa using hs);simpa using this
 have hd:=T.sizes_drop hs;have hsz2:=T.size_eq s;have h5:=akt h hn hlo hbg hgS (.inr ⟨rfl,af _,hk⟩) hst hB hN (by omega);refine⟨k+1,S,by omega,rfl,⟨h5.own,h5.ents,h5.nodup,h5.root,adH ?_ [t] h5.row,h5.below⟩,hgS,(hbg.block (hB.block _ hbg.lt)).setCell,?_,by omega,by have:=hB.size;simp;omega⟩
 ·intro b j;unfold agH;rw[hnil];constructor
  ·rintro(⟨h1|h1,h2⟩|h1)
   ·exact .inl h1
   ·exact .inr ⟨h1.1,by have:j≠k:=fun e=>h2 ⟨h1.1,e⟩;omega,h1.2.2⟩
   ·simp at h1
  ·rintro(h1|h1)
   ·exact .inl ⟨.inl h1,fun e=>hgS (e.1▸akr h1)⟩
   ·exact .inl ⟨.inr ⟨h1.1,by omega,h1.2.2⟩,fun e=>by omega⟩
 ·have hr:aar aM wr (ts.drop (k+1)) g ((k+1)*2):=by
   have:=hrow.drop 1 (by simp;omega);rw[List.drop_drop,show k*2+1*2=(k+1)*2 from by omega] at this;exact this
  exact ac5 (by omega) _ (by omega) (abx (fun k hk=>hB.block k (by omega)) (hB.block _ hbg.lt) hr)
theorem apj{aM:Nat}{w w2:World}{t s:T}{st st':Value}{S:alK}{wr w4 w7:World}{g k M:Nat}{ts:List T}{g2 c2:Nat}{ob:Obj}(h:CpS aM w w2 t st S wr (fun b j=>as6 S b j\/(b=g/\k<=j/\j<ts.length)))(hn:aM<=w.heap.size)(hlo:w.heap.size+2<=g)(hbg:Blk wr g)(hgS:g∉anQ S)
 (hs:ts[k]? =some s) (hrow:aar aM wr (ts.drop k) g (k*2)) (hB:Below wr.heap.size wr w4) (hN:af9 aM wr.heap.size w4 s.args (some ⟨g2,0,none⟩) c2) (hsz:w.heap.size+4<=wr.heap.size) (hM:anP S+T.sizes (ts.drop k)+k<=M) (hnil:s.args≠[])
 (hown:w7.ownsRow (w.heap.size+3) 58 1 st' (S.length+1) (ads S++[.slice (some ⟨g2,0,none⟩) s.args.length c2])) (hgr:((w4.setCell ⟨g,k*2+1,none⟩ (.slice (some ⟨g2,0,none⟩) s.args.length c2)).alloc ob).grownBy w7 st.ownBlock):
 awB aM w w2 t g ts M st' (.int .i64 ((k+1:Nat):Int)) w7:=by
 obtain⟨hk,_⟩:=ah.1 hs
 have hst:IsT aM wr s g (k*2):=by
  have:=hrow.at (i:=0) (t:=s) (by simpa using hs);simpa using this
 have hd:=T.sizes_drop hs;have hsz2:=T.size_eq s;have h5:=akt h hn hlo hbg hgS (.inr ⟨rfl,af _,hk⟩) hst hB hN (by omega);have hB4:=hB.size
 obtain⟨cur,hg2,hblk,hcs,hrow2⟩:∃cur,wr.heap.size<=g2/\w4.heap[g2]? =some (.cells cur 60 (0,0))/\cur.size=c2*2/\aar aM w4 s.args g2 0:=by
  rcases hN.2.2 with h|⟨g',cur,e,h1,h2,h3,h4⟩
  ·exact absurd h hnil
  ·cases e;exact⟨cur,h1,h2,h3,h4⟩
 have hgl:=hbg.lt
 have hS:∀b∈anQ S,b<wr.heap.size:=fun b hb=>by
  obtain⟨e,he,rfl⟩:=List.mem_map.1 hb;exact(h.ents e he).2.1.lt
 have hg2S:g2∉anQ S:=fun hh=>by have:=hS _ hh;omega
 have hk5:∀q,q≠g->(w4.setCell ⟨g,k*2+1,none⟩ (.slice (some ⟨g2,0,none⟩) s.args.length c2)).heap[q]? =w4.heap[q]? :=fun q hq=>an _ _ _ _ hq
 have hE:Ent aM (w.heap.size+2) (w4.setCell ⟨g,k*2+1,none⟩ (.slice (some ⟨g2,0,none⟩) s.args.length c2)) (g2,c2,s.args):=
  ⟨by show w.heap.size+2<=g2;omega,Blk.setCell ⟨cur,hblk⟩,abx (fun q hq=>hk5 q (by omega)) (hk5 g2 (by omega)) hrow2,hN.1,hN.2.1,hnil⟩
 obtain⟨h7,hkeep,hsz7⟩:=arK (old':=fun b j=>as6 (S++[(g2,c2,s.args)]) b j\/(b=g/\k+1<=j/\j<ts.length)) h5 hn (by simp;omega) hE hg2S hown hgr (by
  intro b j;unfold agH;constructor
  ·rintro(⟨h1|h1,h2⟩|h1)
   ·obtain⟨e,he,h3⟩:=h1;exact .inl ⟨e,List.mem_append_left _ he,h3⟩
   ·exact .inr ⟨h1.1,by have:j≠k:=fun e=>h2 ⟨h1.1,e⟩;omega,h1.2.2⟩
   ·have h2:=h1.2;simp at h2;exact .inl ⟨(g2,c2,s.args),by simp,h2,h1.1⟩
  ·rintro(h1|h1)
   ·obtain⟨e,he,h3,h4⟩:=h1
    rcases aG.1 he with he|he
    ·exact .inl ⟨.inl ⟨e,he,h3,h4⟩,fun e'=>hgS (e'.1▸akr ⟨e,he,h3,h4⟩)⟩
    ·rw[List.mem_singleton.1 he] at h3 h4;exact .inr ⟨h4,by rw[←h3]⟩
   ·exact .inl ⟨.inr ⟨h1.1,by omega,h1.2.2⟩,fun e=>by omega⟩)
 have hbg5:Blk (w4.setCell ⟨g,k*2+1,none⟩ (.slice (some ⟨g2,0,none⟩) s.args.length c2)) g:=(hbg.block (hB.block _ hbg.lt)).setCell;refine⟨k+1,S++[(g2,c2,s.args)],by omega,rfl,h7,?_,hbg5.block (hkeep g (.inr hbg5)),?_,by rw[aes];simp only;omega,by simp at hsz7;omega⟩
 ·simp only[anQ,List.map_append,List.map_cons,List.map_nil,aG,List.mem_singleton,not_or];exact⟨hgS,by omega⟩
 ·have hr:aar aM wr (ts.drop (k+1)) g ((k+1)*2):=by
   have:=hrow.drop 1 (by simp;omega);rw[List.drop_drop,show k*2+1*2=(k+1)*2 from by omega] at this;exact this
  exact abx (fun q hq=>hkeep q (.inl hq)) (hkeep g (.inr hbg5)) (ac5 (by omega) _ (by omega) (abx (fun k hk=>hB.block k (by omega)) (hB.block _ hbg.lt) hr))
theorem anR{aM:Nat}{w w2:World}{t:T}{gs cap:Nat}{S:alK}{wr:World}{g c:Nat}{ts:List T}(h:CpS aM w w2 t (.slice (some ⟨gs,0,none⟩) (S.length+1) cap) (S++[(g,c,ts)]) wr (as6 (S++[(g,c,ts)])))(hsz:w.heap.size+4<=wr.heap.size):
 awB aM w w2 t g ts (anP (S++[(g,c,ts)])) (.slice (some ⟨gs,0,none⟩) S.length cap) (.int .i64 ((0:Nat):Int)) wr:=by
 have hE:=h.ents (g,c,ts) (by simp);have hnd:=h.nodup;simp only[anQ,List.map_append,List.map_cons,List.map_nil] at hnd;rw[List.nodup_append] at hnd;refine⟨0,S,Nat.zero_le _,rfl,⟨ownsRow_pop (by simpa[ads] using h.own),fun e he=>h.ents e (List.mem_append_left _ he),hnd.1,h.root,adH ?_ [t] h.row,h.below⟩,?_,hE.2.1,by simpa using hE.2.2.1,by rw[aes];simp,hsz⟩
 ·intro b j;constructor
  ·rintro⟨e,he,h1,h2⟩
   rcases aG.1 he with he|he
   ·exact .inl ⟨e,he,h1,h2⟩
   ·rw[List.mem_singleton.1 he] at h1 h2;exact .inr ⟨h1.symm,Nat.zero_le _,h2⟩
  ·rintro(⟨e,he,h1⟩|⟨rfl,_,h1⟩)
   ·exact⟨e,List.mem_append_left _ he,h1⟩
   ·exact⟨_,List.mem_append_right _ (List.mem_singleton.2 rfl),rfl,h1⟩
 ·intro hh;exact hnd.2.2 g hh g (by simp) rfl
theorem apk{aM:Nat}{w w2:World}{t:T}{st:Value}{S:alK}{wr:World}{old:Nat->Nat->Prop}{g c:Nat}{ts:List T}(h:CpS aM w w2 t st (S++[(g,c,ts)]) wr old):
 ∃gs cap,st= .slice (some ⟨gs,0,none⟩) (S.length+1) cap/\S.length+1<=cap/\cap<=maxLen/\wr.cell? ⟨gs,S.length,none⟩=some (.slice (some ⟨g,0,none⟩) ts.length c):=by
 have hcells:=fun g hg=>h.own.cells (g:=g) hg;have hown:=h.own;simp only[aK,List.length_cons,List.length_nil,Nat.zero_add] at hown
 rcases hown.2 with⟨_,h0⟩|⟨gs,cap,cur,rfl,hb,hh,hn,hc,_⟩
 ·omega
 ·refine⟨gs,cap,rfl,hn,hc,?_⟩;have:=hcells gs rfl S.length (.slice (some ⟨g,0,none⟩) ts.length c) (by simp[ads]);rw[aaB] at this;simpa using this
theorem apl:(Tryz.prog.info? 58).map (fun i=>(i.zero,i.size,i.bytes))=some (some (.slice none 0 0),1,24):=by kernel_rfl
def apm(t:T)(w:World)(e:Ending)(w':World):Prop:=
 ∃a2 c2,e= .returned (tm t.head a2 t.args.length c2)/\aaj (fun b=>w.heap.size<=b/\Blk w' b) w' t.args a2 c2/\Below w.heap.size w w'
def avs(aM:Nat)(w w2:World)(t:T)(gk:Nat)(st:Value)(wr:World):Prop:=
 ∃S,CpS aM w w2 t st S wr (as6 S)/\anP S=gk/\gk<=t.size/\w.heap.size+4<=wr.heap.size
theorem amM(t:T)(ht:t.size<=1000000000000)(aM:Nat)(a:Option Addr)(c:Nat)(w:World)(hn:aM<=w.heap.size)(hwf:(Lit.int .i64 t.head).wf=true)(hA:aab aM w t.args a c):
 Calls Tryz.prog 101 #[tm t.head a t.args.length c] w (apm t w):=by
 have HWF:=ae hwf;have HA:=ae hA;clear hwf hA;obtain⟨i0,hi,hz0,hz1,hz2⟩:=info_parts apl;go_enter Tryz.func101,Tryz.ntmps101;go_wp2;obtain⟨w2,hw2⟩:∃w2,(w.alloc (aaa t.head a t.args.length c)).alloc (aaa 0 none 0 0)=w2:=⟨_,rfl⟩;have hs2:w2.heap.size=w.heap.size+2:=by rw[←hw2];simp
 have hB2:Below w.heap.size w w2:=by rw[←hw2];exact((ag _ w).alloc (af _) _).alloc (by simp) _
 have hres:∀W,Below (w.heap.size+2) w2 W->∃q0 q1,W.cell? ⟨w.heap.size+1,0,none⟩=some q0/\W.cell? ⟨w.heap.size+1,1,none⟩=some q1/\W.frozen? ⟨w.heap.size+1,0,none⟩=false/\W.frozen? ⟨w.heap.size+1,1,none⟩=false:=fun W hW=>
  ⟨.int .i64 0,.slice none 0 0,(hW.cell (p:=⟨w.heap.size+1,0,none⟩) (by simp)).trans (by rw[←hw2];simp[go_sem]),(hW.cell (p:=⟨w.heap.size+1,1,none⟩) (by simp)).trans (by rw[←hw2];simp[go_sem]),(hW.frozen (p:=⟨w.heap.size+1,0,none⟩) (by simp)).trans (by rw[←hw2];simp[go_sem]),(hW.frozen (p:=⟨w.heap.size+1,1,none⟩) (by simp)).trans (by rw[←hw2];simp[go_sem])⟩
 have hst:avs aM w w2 t (T.sizes [t]) (.slice (some ⟨w.heap.size+1+1+1,0,none⟩) 1 1) ((w2.alloc (.cells #[.int .i64 t.head,.slice a t.args.length c] 60)).alloc (.cells #[.slice (some ⟨w.heap.size+1+1,0,none⟩) 1 1] 58)):=by
  have hb1:((w2.alloc (.cells #[.int .i64 t.head,.slice a t.args.length c] 60)).alloc (.cells #[.slice (some ⟨w.heap.size+1+1,0,none⟩) 1 1] 58)).heap[w.heap.size+2]? =some (.cells #[.int .i64 t.head,.slice a t.args.length c] 60 (0,0)):=by
   rw[az _ _ _ (by simp;omega)];have:=heap_alloc_new w2 (.cells #[.int .i64 t.head,.slice a t.args.length c] 60);rwa[hs2] at this
  have hb2:((w2.alloc (.cells #[.int .i64 t.head,.slice a t.args.length c] 60)).alloc (.cells #[.slice (some ⟨w.heap.size+1+1,0,none⟩) 1 1] 58)).heap[w.heap.size+3]? =some (.cells #[.slice (some ⟨w.heap.size+1+1,0,none⟩) 1 1] 58 (0,0)):=by
   have:=heap_alloc_new (w2.alloc (.cells #[.int .i64 t.head,.slice a t.args.length c] 60)) (.cells #[.slice (some ⟨w.heap.size+1+1,0,none⟩) 1 1] 58);simpa[hs2] using this
  have hbl:Below w.heap.size w ((w2.alloc (.cells #[.int .i64 t.head,.slice a t.args.length c] 60)).alloc (.cells #[.slice (some ⟨w.heap.size+1+1,0,none⟩) 1 1] 58)):=(hB2.alloc (by omega) _).alloc (by simp;omega) _;have hbl2:Below (w.heap.size+2) w2 ((w2.alloc (.cells #[.int .i64 t.head,.slice a t.args.length c] 60)).alloc (.cells #[.slice (some ⟨w.heap.size+1+1,0,none⟩) 1 1] 58)):=((ag _ w2).alloc (by omega) _).alloc (by simp;omega) _;have hsz:((w2.alloc (.cells #[.int .i64 t.head,.slice a t.args.length c] 60)).alloc (.cells #[.slice (some ⟨w.heap.size+1+1,0,none⟩) 1 1] 58)).heap.size=w.heap.size+4:=by simp;omega
  generalize (w2.alloc (.cells #[.int .i64 t.head,.slice a t.args.length c] 60)).alloc (.cells #[.slice (some ⟨w.heap.size+1+1,0,none⟩) 1 1] 58)=wr at*
  have hrow:aar aM wr [t] (w.heap.size+2) 0:=by
   simp only[aar,and_true];exact aaO.2 ⟨HWF.out,by simp[World.cell?,hb1],a,c,by simp[World.cell?,hb1],HA.out.below (hbl.mono hn)⟩
  refine⟨[(w.heap.size+2,1,[t])],⟨?_,?_,by simp[anQ],⟨_,hb1⟩,ai8 [t] (fun j _ hj=>⟨_,List.mem_singleton.2 rfl,rfl,by simpa using hj⟩) hrow,hbl2⟩,by simp[anP],by simp[T.sizes],by omega⟩
  ·exact⟨by simp[ads],.inr ⟨w.heap.size+3,1,_,rfl,af _,hb2,af _,by simp[maxLen],rfl,rfl⟩⟩
  ·intro e he;simp at he;subst he;exact⟨af _,⟨_,hb1⟩,hrow,by simp,by simp[maxLen],by simp⟩
 rw[hw2];have HB2:=ae hB2;have HRES:=ae hres;have HST:=ae hst;have HS2:=ae hs2;clear hw2 hB2 hres hst hs2
 go_loopg [4] (T.sizes [t]) (fun gk st wr=>avs aM w w2 t gk st wr)
 case atStart=>exact HST.out
 case round=>
  clear HST;obtain⟨S,hS,hgk,hgt,hsz⟩:=hrel;have HGK:=ae hgk;clear hgk
  rcases List.eq_nil_or_concat S with rfl|⟨S0,⟨g,c',ts⟩,rfl⟩
  ·have hrow:=agG (fun b j ⟨e,he,_⟩=>by simp at he) [t] hS.row;simp only[aav,and_true] at hrow;obtain⟨_,r1,a2,c2,r2,hI⟩:=abO.1 hrow;obtain⟨q0,q1,r3,r4,r5,r6⟩:=HRES.out wr hS.below;have HI:=ae hI;have HBL:=ae hS.below
   have hst:∃a3 c3,u4=Value.slice a3 0 c3:=by
    rcases hS.own.2 with⟨h,_⟩|⟨gs,cap,cur,h,_⟩
    ·exact⟨none,0,h⟩
    ·exact⟨_,_,h⟩
   obtain⟨a3,c3,rfl⟩:=hst;clear hI hrow hS;go_wp2;refine bodyPost_ret (v:=tm t.head a2 t.args.length c2) (by simp[results,Tryz.results101,go_sem,r3,r4]) rfl ⟨a2,c2,rfl,HI.out.keep (fun b hb=>(an _ _ _ _ (by have:=hb.1;simp;omega)).trans (an _ _ _ _ (by have:=hb.1;simp;omega))) (fun b hb=>⟨by have:=hb.1;omega,hb.2.setCell.setCell⟩),?_⟩;exact((HB2.out.trans (HBL.out.mono (by omega))).setCell (p:=⟨w.heap.size+1,0,none⟩) (by simp) _).setCell (p:=⟨w.heap.size+1,1,none⟩) (by simp) _
  ·simp only[List.concat_eq_append] at hS;obtain⟨gs,cap,rfl,hcap,hcm,hcell⟩:=apk hS;obtain⟨hg1,hg2,hg3,hg4,hg5,hg6⟩:=hS.ents (g,c',ts) (by simp);dsimp only at hg1 hg2 hg3 hg4 hg5 hg6;have hin:=anR hS hsz;have ajT:=HGK.out;rw[List.concat_eq_append] at ajT;rw[ajT] at hin;have hlt:0<ts.length:=List.length_pos_iff.2 hg6;have hlm:ts.length<=1000000000000:=by have h1:=T.sizes_ge_length ts;have h2:=aes S0 (g,c',ts);dsimp only at h2;omega
   have HIN:=ae hin;have HG1:=ae hg1;have HSL:=ae (adU S0 (fun e he=>hS.ents e (List.mem_append_left _ he)));have hs0:S0.length<=1000000000000:=by have h1:=HSL.out;have h2:=aes S0 (g,c',ts);omega
   unfold maxLen at hcm hg5;clear hin hS hg2 hg3 hg6 ajT HSL;go_wp2
   go_loopw [4,27] (fun st i wq=>awB aM w w2 t g ts gk st i wq) (fun _ i _=>ts.length-(intOf i).toNat)
   case atStart=>exact HIN.out
   case round=>
    clear HIN hcell;obtain⟨k,S,hk,rfl,h,hgS,hbg,hrow,hM,hsz'⟩:=hrel;have hsl:=adU S h.ents;have hbs:=hbg.lt;by_cases hlk:k<ts.length
    ·have hs:=ai hlk;generalize ts[k]=s at hs
     have hst:IsT aM wr s g (k*2):=by
      have:=hrow.at (i:=0) (t:=s) (by simpa using hs);simpa using this
     obtain⟨_,hc1,a',c1,hc2,hA'⟩:=aaO.1 hst;have hsd:=T.sizes_drop hs;have hsq:=T.size_eq s;have hsl2:=T.sizes_ge_length s.args;have hsa:s.args.length<=1000000000000:=by omega
     have hSl:S.length+1<=1000000000000:=by omega
     have hne:=hbg.not_own h.own;have hfz:=hbg.frozen (o:=k*2+1);have HH:=ae h;have HGS:=ae hgS;have HBG:=ae hbg;have HROW:=ae hrow;have HM:=ae hM;have HSS:=ae hs;have HNE:=ae hne;have HA':=ae hA';clear h hgS hbg hrow hM hs hst hne hA' hsd hsq hsl hsl2
     go_wp2_with fail
     refine(agu s.args hsa aM a' c1 wr (by omega) HA'.out).mono ?_;rintro e w4 ⟨a2,c2,rfl,hN,hb⟩;have d2:=(hb.cell (p:=⟨g,k*2+1,none⟩) hbs).trans hc2;have f2:=(hb.frozen (p:=⟨g,k*2+1,none⟩) hbs).trans hfz;have hz4:=hb.size;have HN:=ae hN;have HB4:=ae hb;clear hb hc1 hc2 hfz;by_cases hnil:s.args.length=0
     ·have hnil2:s.args=[]:=aC hnil;have HNL:=ae hnil2;clear hnil2 hN;have hz:¬0<s.args.length:=by omega
      clear hnil;go_wp2
      go_roundw
      case rel=>exact arL HH.out hn hg1 HBG.out HGS.out HSS.out HROW.out HB4.out HN.out hsz' HM.out HNL.out
      case measure=>simp[intOf];omega
     ·have hnil2:s.args≠[]:=fun e=>hnil (by rw[e];rfl)
      obtain⟨g2,rfl⟩:∃g2,a2=some ⟨g2,0,none⟩:=by
       rcases hN.2.2 with h|⟨g2,_,h,_⟩
       ·exact absurd h hnil2
       ·exact⟨g2,h⟩
      have HNL:=ae hnil2;clear hnil2 hN;have hz:0<s.args.length:=by omega
      clear hnil
      go_wp2_with (at_builtin;refine aaG ?_)
      refine ae ?_;refine wpList_append_own _ rfl _ _ 176 rfl (w.heap.size+3) 58 i0 (.slice none 0 0) 1 24 Tryz.underlying176 hi hz0 hz1 hz2 rfl (by decide) u4 S.length (ads S) rfl ((abd (aaM HH.out.own HB4.out) HNE.out _).alloc _) ⟨w4.heap.size,0,none⟩ 1 1 [.slice (some ⟨g2,0,none⟩) s.args.length c2] rfl rfl (abJ _ _ _ _ (by simp)) (by simp[Value.oneCell']) (by unfold maxLen;omega) (by omega) (by simp;omega) ?_;intro v' w7 hown hgr _;have HO7:=ae hown;have HG7:=ae hgr;clear hown hgr;go_wp2
      go_roundw
      case rel=>exact apj HH.out hn hg1 HBG.out HGS.out HSS.out HROW.out HB4.out HN.out hsz' HM.out HNL.out HO7.out HG7.out
      case measure=>simp[intOf];omega
    ·obtain rfl:k=ts.length:=by omega
     have hS2:CpS aM w w2 t u4 S wr (as6 S):=⟨h.own,h.ents,h.nodup,h.root,adH (fun b j=>⟨fun e=>e.elim id (fun e=>by omega),fun e=> .inl e⟩) [t] h.row,h.below⟩;have HS2':=ae hS2;have HM:=ae hM;clear h hgS hbg hrow hM hS2;go_wp2
     go_roundg (anP S)
     case measure=>have:=HM.out;omega
     case rel=>exact⟨S,HS2'.out,rfl,by have:=HM.out;omega,hsz'⟩
def Bo(b:Nat)(x:LV)(X:World):Prop:=
 X.heap[b]? =some (.cells #[.bool x.n,.int .i64 x.l.head,.slice x.pa x.l.args.length x.ca,.int .i64 x.r.head,.slice x.pb x.r.args.length x.cb] 62 (0,0))
theorem Bo.lc{b:Nat}{x:LV}{X:World}(h:Bo b x X):Lc b x X:=by
 unfold Bo at h;refine⟨?_,?_,?_,?_,?_⟩<;>simp[World.cell?,h]
theorem Bo.lf{b:Nat}{x:LV}{X:World}(h:Bo b x X):X.frozen? ⟨b,0,none⟩=false/\X.frozen? ⟨b,1,none⟩=false/\X.frozen? ⟨b,2,none⟩=false/\X.frozen? ⟨b,3,none⟩=false/\X.frozen? ⟨b,4,none⟩=false:=by
 unfold Bo at h;refine⟨?_,?_,?_,?_,?_⟩<;>simp[World.frozen?,h]
theorem Bo.lt{b:Nat}{x:LV}{X:World}(h:Bo b x X):b<X.heap.size:=(aj.1 h).1
theorem arM(W:World)(x:LV):aai (Bo W.heap.size x) (W.alloc x.obj):=fun X hX=>by
 unfold Bo;rw[hX.block _ (by simp)];show(W.heap.push x.obj)[W.heap.size]? =_;simp
theorem aai.pushB{F:World->Prop}{W W':World}(k:aai F W)(hb:Below W.heap.size W W')(x:LV):aai (fun X=>Bo W'.heap.size x X/\F X) (W'.alloc x.obj):=
 (k.mv (hb.alloc hb.size _)).and (arM W' x)
theorem Bo.swap{b:Nat}{x:LV}{X:World}(h:Bo b x X):Bo b x.turn ((((X.setCell ⟨b,1,none⟩ (.int .i64 x.r.head)).setCell ⟨b,2,none⟩ (.slice x.pb x.r.args.length x.cb)).setCell ⟨b,3,none⟩ (.int .i64 x.l.head)).setCell ⟨b,4,none⟩ (.slice x.pa x.l.args.length x.ca)):=by
 have h1:=heap_setCell_same (o:=1) h (.int .i64 x.r.head);have h2:=heap_setCell_same (o:=2) h1 (.slice x.pb x.r.args.length x.cb);have h3:=heap_setCell_same (o:=3) h2 (.int .i64 x.l.head);have h4:=heap_setCell_same (o:=4) h3 (.slice x.pa x.l.args.length x.ca);exact h4
def LV.zero:LV:=⟨false,.node 0 [],.node 0 [],none,0,none,0⟩
theorem alL{n b:Nat}{w u:World}(h:Below n w u)(hb:n<=b)(v0 v1 v2 v3 v4:Value):Below n w (((((u.setCell ⟨b,0,none⟩ v0).setCell ⟨b,1,none⟩ v1).setCell ⟨b,2,none⟩ v2).setCell ⟨b,3,none⟩ v3).setCell ⟨b,4,none⟩ v4):=
 ((((h.setCell (p:=⟨b,0,none⟩) hb v0).setCell (p:=⟨b,1,none⟩) hb v1).setCell (p:=⟨b,2,none⟩) hb v2).setCell (p:=⟨b,3,none⟩) hb v3).setCell (p:=⟨b,4,none⟩) hb v4
mutual
theorem T.sub_size{f:Int->T}{n:Nat}(hn:1<=n)(hf:∀v,(f v).size<=n):(t:T)->(t.sub f).size<=t.size*n
 | .node h ts=>by
   rw[T.sub];split
   ·have:=hf (-1-h);simp only[T.size,Nat.add_mul];have:0<=T.sizes ts*n:=Nat.zero_le _;omega
   ·have:=T.subl_size hn hf ts;simp only[T.size,Nat.add_mul];omega
theorem T.subl_size{f:Int->T}{n:Nat}(hn:1<=n)(hf:∀v,(f v).size<=n):(ts:List T)->T.sizes (T.subl f ts)<=T.sizes ts*n
 |[]=>by simp[T.subl,T.sizes]
 |t::ts=>by have h1:=T.sub_size hn hf t;have h2:=T.subl_size hn hf ts;simp only[T.subl,T.sizes,Nat.add_mul];omega
end
mutual
theorem T.sub_sub(f g:Int->T):(t:T)->(t.sub f).sub g=t.sub (fun v=>(f v).sub g)
 | .node h ts=>by
   by_cases q:h<0
   ·rw[T.sub,if_pos q,T.sub,if_pos q]
   ·rw[T.sub,if_neg q,T.sub,if_neg q,T.sub,if_neg q,T.subl_subl f g ts]
theorem T.subl_subl(f g:Int->T):(ts:List T)->T.subl g (T.subl f ts)=T.subl (fun v=>(f v).sub g) ts
 |[]=>rfl
 |t::ts=>by rw[T.subl,T.subl,T.subl,T.sub_sub f g t,T.subl_subl f g ts]
end
def at2(ok:Nat->Prop)(x:T)(k:Int)(w:World)(e:Ending)(w':World):Prop:=
 ∃a c,e= .returned (.tuple #[tm x.head a x.args.length c,.int .i64 k])/\(Lit.int .i64 x.head).wf=true/\aaj ok w' x.args a c/\Below w.heap.size w w'
def at3(aM:Nat)(x:T)(k:Int)(w:World)(e:Ending)(w':World):Prop:=
 ∃a c,e= .returned (.tuple #[tm x.head a x.args.length c,.int .i64 k])/\(Lit.int .i64 x.head).wf=true/\aaj (fun b=>(b<aM\/w.heap.size<=b)/\b<w'.heap.size) w' x.args a c/\Below w.heap.size w w'
theorem agJ(ok:Nat->Prop)(w:World):aaj ok w (T.node 0 []).args none 0:=⟨by simp[T.args],by simp[maxLen],.inl rfl⟩
def amN(x:T):T:=if x.check=0 then x else Z0
theorem at4:(Lit.int .i64 Z0.head).wf=true:=by decide
open Go.Maps
def acq(v:Value):Option (DataW Value×List MemPlace):=some (.held v,[])
theorem ah5:Keyed Tryz.prog 3:=int_keyed Tryz.underlying3
def ai9(x:T)(w:World)(e:Ending)(w':World):Prop:=
 ∃a c,e= .returned (tm x.head a x.args.length c)/\(Lit.int .i64 x.head).wf=true/\aaj (fun b=>w.heap.size<=b/\b<w'.heap.size) w' x.args a c/\Below w.heap.size w w'
end Go.Proofs.YtabfapijgfjflaaGreat
