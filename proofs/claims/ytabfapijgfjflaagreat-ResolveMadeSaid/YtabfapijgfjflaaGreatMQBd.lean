import Derived.Test.YtabfapijgfjflaaGreatMQBa
import Derived.Test.YtabfapijgfjflaaGreatMQBb
import Derived.Lib.SliceRun
import Derived.Deep.AppendLies
import Derived.Deep.RegionLaw
import Derived.Maps.OwnSet
import Derived.Deep.OwnRows
import Derived.IntWalk
import Derived.Maps.RangeWalk
import Derived.Test.YtabfapijgfjflaaGreatMQBc
import Derived.Lib.QuietBelow
import Derived.Deep.QuietTactic
import Derived.BigQuiet
import Derived.Lib.Hide
import Derived.Test.YtabfapijgfjflaaGreatMAl
set_option linter.unusedVariables false
set_option linter.unusedSimpArgs false
namespace Go.Proofs.YtabfapijgfjflaaGreat
open Go.RowKit
theorem acX:(Tryz.prog.info? 60).map (fun i=>(i.zero,i.size,i.bytes))=some (some (.agg #[.int .i64 0,.slice none 0 0]),2,32):=by kernel_rfl
def af9(aM lo:Nat)(w:World)(ts:List T)(a:Option Addr)(c:Nat):Prop:=
 ts.length<=c/\c<=maxLen/\(ts=[]\/∃g cur,a=some ⟨g,0,none⟩/\lo<=g/\w.heap[g]? =some (.cells cur 60 (0,0))/\cur.size=c*2/\aar aM w ts g 0)
theorem aoM{aM:Nat}{w:World}:∀(ts:List T) (b o:Nat),aar aM w ts b o->∃news:List Value,news.length=ts.length*2/\(∀j u,news[j]? =some u->w.cell? ⟨b,o+j,none⟩=some u)/\(∀u∈news,u.oneCell'=true)/\
 ∀(W:World) (g q:Nat),Below aM w W->(∀j u,news[j]? =some u->W.cell? ⟨g,q+j,none⟩=some u)->aar aM W ts g q:=by
 intro ts
 induction ts with
 |nil=>intro b o _;exact⟨[],rfl,by simp,by simp,fun _ _ _ _ _=>trivial⟩
 |cons t ts ih=>
  intro b o h;simp only[aar] at h;obtain⟨ht,hr⟩:=h;obtain⟨news,hl,hc,h1,hW⟩:=ih b (o+2) hr;obtain⟨wf,p1,a,c,p2,hA⟩:=aaO.1 ht;refine⟨.int .i64 t.head:: .slice a t.args.length c::news,by simp[hl];omega,?_,?_,?_⟩
  ·intro j u hj
   match j,hj with
   |0,hj=>simp at hj;subst hj;exact p1
   |1,hj=>simp at hj;subst hj;exact p2
   |j+2,hj=>rw[show o+(j+2)=o+2+j from by omega];exact hc j u (by simpa using hj)
  ·intro u hu;simp at hu
   rcases hu with rfl|rfl|hu
   ·rfl
   ·rfl
   ·exact h1 u hu
  ·intro W g q hB hcell;simp only[aar];refine⟨aaO.2 ⟨wf,by simpa using hcell 0 _ rfl,a,c,hcell 1 _ rfl,hA.below hB⟩,hW W g (q+2) hB (fun j u hj=> ?_)⟩;rw[show q+2+j=q+(j+2) from by omega];exact hcell (j+2) u (by simpa using hj)
def aoN(aM:Nat)(ts:List T)(w:World)(e:Ending)(w':World):Prop:=∃a2 c2,e= .returned (.slice a2 ts.length c2)/\af9 aM w.heap.size w' ts a2 c2/\Below w.heap.size w w'
theorem aht{aM base:Nat}{w w':World}{v:Value}{ts:List T}{news:List Value}(hb:Below aM w w')(hown:w'.ownsRow base 60 2 v ts.length news)
 (hW:∀(W:World) (g q:Nat),Below aM w W->(∀j u,news[j]? =some u->W.cell? ⟨g,q+j,none⟩=some u)->aar aM W ts g q):∃a2 c2,v= .slice a2 ts.length c2/\af9 aM base w' ts a2 c2:=by
 have hcells:=fun g hg=>hown.cells (g:=g) hg
 rcases hown.2 with⟨rfl,h0⟩|⟨g,cap,cur,rfl,hg,hh,hn,hc,hs,_⟩
 ·exact⟨none,0,by rw[h0],by omega,by simp[maxLen],.inl (aC h0)⟩
 ·refine⟨_,cap,rfl,hn,hc,.inr ⟨g,cur,rfl,hg,hh,hs,hW w' g 0 hb (fun j u hj=> ?_)⟩⟩;have:=hcells g rfl j u hj;rw[show((⟨g,0,none⟩:Addr).add j)=⟨g,0+j,none⟩ from by unfold Addr.add;split<;>simp_all] at this;exact this
theorem aaM{w w':World}{base:Nat}{e:TypeId}{size:Nat}{v:Value}{n:Nat}{xs:List Value}(h:w.ownsRow base e size v n xs)(hb:Below w.heap.size w w'):w'.ownsRow base e size v n xs:=
 h.kept (row:=none) ⟨hb.os,hb.tape,hb.output,hb.size,fun k hk _=>hb.block k hk⟩ (by cases hv:v.ownBlock<;>simp)
theorem heap_setCell_same{w:World}{b o:Nat}{c:Array Value}{t:TypeId}{fr:Nat×Nat}(h:w.heap[b]? =some (.cells c t fr))(u:Value):(w.setCell ⟨b,o,none⟩ u).heap[b]? =some (.cells (c.setIfInBounds o u) t fr):=by
 unfold World.setCell;show(w.heap.modify b _)[b]? =_;rw[Array.getElem?_modify,if_pos rfl,h];rfl
open Go.Maps
namespace Mm
theorem acY{P:Program}{k:TypeId}{R:Value->Option (DataW Value×List MemPlace)}{w:World}{b n:Nat}{D:DataW Value}(h:w.ownsMap P k R b n D):w.ownsMap P k R b (Maps.size D) D:=by
 have:=h.size_le;obtain⟨es,clock,hb,F,hs,rfl⟩:=h;exact⟨es,clock,hb,F,by simp[Maps.size,length_sorted],rfl⟩
def held(v:Value):Option (DataW Value×List MemPlace):=some (.held v,[])
def wfi(v:Int):Prop:= -9223372036854775808<=v/\v<=9223372036854775807
theorem wfi.wf{v:Int}(h:wfi v):(Lit.int .i64 v).wf=true:=WalkArith.wf_i64 h
theorem cell_of_block{w w':World}{a:Addr}(h:w'.heap[a.block]? =w.heap[a.block]?):w'.cell? a=w.cell? a:=by simp only[World.cell?,h]
theorem aaQ{w w':World}{a:Addr}(h:w'.heap[a.block]? =w.heap[a.block]?):w'.frozen? a=w.frozen? a:=by simp only[World.frozen?,h]
theorem cell_grown{w w':World}{r:Option Nat}(h:w.grownBy w' r){p:Addr}(hp:p.block<w.heap.size)(hne:some p.block≠r):w'.cell? p=w.cell? p:=cell_of_block (h.block p.block hp hne)
theorem abW{w w':World}{r:Option Nat}(h:w.grownBy w' r){p:Addr}(hp:p.block<w.heap.size)(hne:some p.block≠r):w'.frozen? p=w.frozen? p:=aaQ (h.block p.block hp hne)
theorem rowBlock{w:World}{base:Nat}{e:TypeId}{size:Nat}{v:Value}{k:Nat}{xs:List Value}(h:w.ownsRow base e size v k xs){b:Nat}(hb:v.ownBlock=some b):base<=b/\b<w.heap.size/\∃cur,w.heap[b]? =some (.cells cur e (0,0)):=by
 have hlt:=h.lt b hb
 rcases h.2 with⟨rfl,_⟩|⟨g,cap,cur,rfl,hg,hh,_⟩
 ·cases hb
 ·simp only[Value.ownBlock,aJ] at hb;subst hb;exact⟨hlt.1,hlt.2,cur,hh⟩
theorem ownsRow_kept{w w':World}{base:Nat}{e:TypeId}{size:Nat}{v:Value}{k:Nat}{xs:List Value}(h:w.ownsRow base e size v k xs)(hb:∀b,v.ownBlock=some b->w'.heap[b]? =w.heap[b]?):w'.ownsRow base e size v k xs:=by
 obtain⟨h1,h2⟩:=h;refine⟨h1,?_⟩
 rcases h2 with h2|⟨g,cap,cur,rfl,p1,p2,p3⟩
 ·exact .inl h2
 ·exact .inr ⟨g,cap,cur,rfl,p1,(hb g rfl).trans p2,p3⟩
end Mm
theorem aav.at{ok:Nat->Prop}{w:World}{ts:List T}{b o:Nat}(h:aav ok w ts b o){i:Nat}{t:T}(hi:ts[i]? =some t):aho ok w t b (o+i*2):=by
 induction ts generalizing o i with
 |nil=>simp at hi
 |cons s ts ih=>
  simp only[aav] at h;cases i with
  |zero=>simp at hi;subst hi;exact h.1
  |succ i=>
   have:=ih h.2 (i:=i) (by simpa using hi);rw[show o+(i+1)*2=o+2+i*2 from by omega];exact this
theorem aaj.elem{ok:Nat->Prop}{w:World}{ts:List T}{a:Option Addr}{c:Nat}(h:aaj ok w ts a c){i:Nat}(hi:i<ts.length):
 ∃(b o:Nat) (t:T) (a':Option Addr) (c':Nat),a=some ⟨b,o,none⟩/\ok b/\ts[i]? =some t/\(Lit.int .i64 t.head).wf=true/\w.cell? ⟨b,o+i*2,none⟩=some (.int .i64 t.head)/\
  w.cell? ⟨b,o+i*2+1,none⟩=some (.slice a' t.args.length c')/\aaj ok w t.args a' c':=by
 obtain⟨_,_,h3⟩:=h
 rcases h3 with rfl|⟨b,o,rfl,h4,h5⟩
 ·simp at hi
 ·have ht:=h5.at (ai hi);obtain⟨p0,p1,a',c',p2,p3⟩:=abO.1 ht;exact⟨b,o,_,a',c',rfl,h4,ai hi,p0,p1,p2,p3⟩
mutual
def T.hds:T->List Int
 | .node h ts=>h::T.hdsL ts
def T.hdsL:List T->List Int
 |[]=>[]
 |t::ts=>t.hds++T.hdsL ts
end
theorem T.hds_eq(t:T):t.hds=t.head::T.hdsL t.args:=by cases t;rfl
mutual
theorem T.hds_length:(t:T)->t.hds.length=t.size
 | .node h ts=>by simp[T.hds,T.size,T.hdsL_length ts];omega
theorem T.hdsL_length:(ts:List T)->(T.hdsL ts).length=T.sizes ts
 |[]=>rfl
 |t::ts=>by simp[T.hdsL,T.sizes,T.hds_length t,T.hdsL_length ts]
end
theorem T.hdsL_drop{ts:List T}{i:Nat}{t:T}(h:ts[i]? =some t):T.hdsL (ts.drop i)=t.hds++T.hdsL (ts.drop (i+1)):=by
 obtain⟨hi,e⟩:=ah.1 h;rw[aD hi,e,T.hdsL]
theorem ahu:Keyed Tryz.prog 3:=int_keyed Tryz.underlying3
theorem asT(w:World):(zeroValue 3).run Tryz.prog w= .ok (.int .i64 0) w:=by kernel_rfl
def hwf(v:Int):Prop:= -9223372036854775808<=v/\v<=9223372036854775807
theorem hwf.wf{v:Int}(h:hwf v):(Lit.int .i64 v).wf=true:=WalkArith.wf_i64 h
theorem ahK{v:Int}(h:(Lit.int .i64 v).wf=true):hwf v:=by
 revert h
 intro hw;show-9223372036854775808<=v/\v<=9223372036854775807;simp[Lit.wf,IntKind.min,IntKind.max,IntKind.signed,IntKind.bits] at hw;omega
def afo(W:World)(M:Nat)(L:List Int):Prop:=
 ∃D:DataW Unit,W.ownsMap Tryz.prog 3 (plainElem Tryz.prog 3) M L.length D/\(∀v,hwf v->Maps.has D (.int .i64 v)=decide (v∈L)/\(v∈L->∀z,D.atKey (.int .i64 v) z= .lit (.int .i64 (L.count v:Nat))))/\∀v∈L,hwf v
theorem afo.lt{W:World}{M:Nat}{L:List Int}(h:afo W M L):M<W.heap.size:=by obtain⟨D,h1,_⟩:=h;exact h1.lt
theorem afo.kept{W W':World}{M:Nat}{L:List Int}(h:afo W M L)(hb:W'.heap[M]? =W.heap[M]?):afo W' M L:=by
 obtain⟨D,⟨es,clock,hm,r⟩,h2⟩:=h;exact⟨D,⟨es,clock,hb.trans hm,r⟩,h2⟩
theorem afo.notCells{W:World}{M:Nat}{L:List Int}(h:afo W M L){cs:Array Value}{e:TypeId}{fz:Nat×Nat}:W.heap[M]? ≠some (.cells cs e fz):=by
 obtain⟨D,⟨es,clock,hm,r⟩,h2⟩:=h;rw[hm];simp
theorem afo.perm{W:World}{M:Nat}{L L':List Int}(h:afo W M L)(hp:L.Perm L'):afo W M L':=by
 obtain⟨D,h1,h2,h4⟩:=h;refine⟨D,by rw[←hp.length_eq];exact h1,fun v hv=> ?_,fun v hv=>h4 v (hp.mem_iff.2 hv)⟩;obtain⟨q1,q2⟩:=h2 v hv;refine⟨by rw[q1];simp[hp.mem_iff],fun hm z=> ?_⟩;rw[q2 (hp.mem_iff.2 hm) z,hp.count_eq]
theorem afo.look{W:World}{M:Nat}{L:List Int}(h:afo W M L){v:Int}(hv:hwf v):
 (Instr.lookup 168 (.map (some M)) (.int .i64 v) false).run Tryz.prog W= .ok (.int .i64 (L.count v:Nat)) W:=by
 obtain⟨D,h1,h3,h4⟩:=h;have hkey:=keyOf_int_mk (P:=Tryz.prog) (k:=3) Tryz.underlying3 hv.wf;obtain⟨q1,q2⟩:=h3 v hv;obtain⟨c,hrun,hat,_⟩:=h1.lookup_int ahu Tryz.underlying168 Tryz.underlying3 (asT _) hkey;rw[hrun];by_cases hm:v∈L
 ·rw[q2 hm] at hat;simp at hat;rw[hat]
 ·rw[Maps.atKey_of_not_has (by rw[q1];simp[hm])] at hat;simp at hat;rw[←hat,List.count_eq_zero.2 hm];rfl
theorem afo.put{W:World}{M:Nat}{L:List Int}(h:afo W M L){v:Int}(hv:hwf v)(hn:L.length<=1000000000000):
 ∃w',(Instr.mapUpdate 168 (.map (some M)) (.int .i64 v) (.int .i64 ((L.count v:Nat)+1))).run Tryz.prog W= .ok () w'/\afo w' M (v::L)/\W.grownBy w' (some M):=by
 obtain⟨D,h1,h3,h4⟩:=h;have hkey:=keyOf_int_mk (P:=Tryz.prog) (k:=3) Tryz.underlying3 hv.wf;have hcl:L.count v<=L.length:=List.count_le_length;have hwc:(Lit.int .i64 ((L.count v:Nat)+1)).wf=true:=WalkArith.wf_i64 ⟨by omega,by omega⟩;obtain⟨w',hrun,r1,r2⟩:=h1.update ahu Tryz.underlying168 (by unfold maxLen;omega) hkey (plainElem_int (H:=Unit) (P:=Tryz.prog) Tryz.underlying3 hwc);have hM:=h1.isMap;refine⟨w',hrun,⟨_,r1,fun x hx=> ?_,fun x hx=>by rcases List.mem_cons.1 hx with rfl|hx;exact hv;exact h4 x hx⟩,r2⟩;by_cases e:x=v
 ·subst e;refine⟨by rw[Maps.has_put_same hM (show WideAt.IsKeyLit (.int .i64 x) from trivial)];simp,fun _ z=> ?_⟩;rw[Maps.atKey_put_same (k:= .int .i64 x) hM (show WideAt.IsKeyLit (.int .i64 x) from trivial) _ z];simp
 ·have hne:Lit.int .i64 x≠Lit.int .i64 v:=by intro e';injection e' with _ e';exact e e'
  refine⟨by rw[Maps.has_put_other hne,(h3 x hx).1];simp[e],fun hm z=> ?_⟩;rw[Maps.atKey_put_other hne,(h3 x hx).2 (by simpa[e] using hm) z,List.count_cons_of_ne (fun e'=>e e'.symm)]
theorem afo.made(w:World):afo (w.alloc (.map #[] 0)) w.heap.size []:=
 ⟨.map [],World.ownsMap_made w Tryz.prog 3 (plainElem Tryz.prog 3),fun v _=>⟨rfl,by simp⟩,by simp⟩
abbrev Stk:=List (List T×Option Addr×Nat)
def alu(S:Stk):List Value:=S.map fun e=> .slice e.2.1 e.1.length e.2.2
def ajT(S:Stk):Nat:=(S.map fun e=>T.sizes e.1).sum
def adn(S:Stk):List Int:=(S.map fun e=>T.hdsL e.1).flatten
theorem aga(S:Stk):(adn S).length=ajT S:=by
 induction S with
 |nil=>rfl
 |cons e S ih=>simp only[adn,ajT,List.map_cons,List.flatten_cons,List.sum_cons,aK,T.hdsL_length] at ih ⊢;omega
theorem aj3(S:Stk)(e):ajT (S++[e])=ajT S+T.sizes e.1:=by simp[ajT]
theorem aj4(S:Stk)(e):adn (S++[e])=adn S++T.hdsL e.1:=by simp[adn]
structure HdC (aM:Nat) (w:World) (M Bl base:Nat) (st:Value) (S:Stk) (L:List Int) (wr:World):Prop where
 own:wr.ownsRow base 58 1 st S.length (alu S)
 ents:∀e∈S,aaj (fun b=>b<aM\/b=Bl) wr e.1 e.2.1 e.2.2/\e.1≠[]
 map:afo wr M L
 below:Below w.heap.size w wr
 lt:Bl<wr.heap.size/\base<=wr.heap.size
theorem own_ge{w:World}{base n size:Nat}{e:TypeId}{v:Value}{xs:List Value}(ho:w.ownsRow base e size v n xs){b:Nat}(h:v.ownBlock=some b):base<=b:=by
 rcases ho.2 with⟨rfl,_⟩|⟨g,cap,cur,rfl,hb,_⟩
 ·cases h
 ·simp[Value.ownBlock] at h;omega
theorem avd{w:World}{base:Nat}{e:TypeId}{g n cap:Nat}{xs:List Value}{x:Value}(h:w.ownsRow base e 1 (.slice (some ⟨g,0,none⟩) (n+1) cap) (n+1) (xs++[x])):w.ownsRow base e 1 (.slice (some ⟨g,0,none⟩) n cap) n xs:=by
 obtain⟨h1,h2⟩:=h;refine⟨by simp at h1;omega,?_⟩
 rcases h2 with⟨h2,_⟩|⟨g',cap',cur,h2,h3,h4,h5,h6,h7,h8⟩
 ·cases h2
 ·cases h2;refine .inr ⟨g,cap,cur,rfl,h3,h4,by omega,h6,h7,?_⟩;have:(cur.toList.take ((n+1)*1)).take (n*1)=(xs++[x]).take (n*1):=by rw[h8]
  rw[List.take_take] at this;rw[show min (n*1) ((n+1)*1)=n*1 from by omega] at this;rw[this,List.take_append_of_le_length (by simp at h1;omega),List.take_of_length_le (by simp at h1;omega)]
section
variable {aM:Nat} {w:World} {M Bl base:Nat} {st:Value} {S:Stk} {L:List Int} {wr w':World}
theorem HdC.later(h:HdC aM w M Bl base st S L wr)(hn:aM<=w.heap.size)(hB:Below wr.heap.size wr w'):HdC aM w M Bl base st S L w':=by
 have hsz:=h.below.size;refine⟨aaM h.own hB,fun e he=>⟨(h.ents e he).1.keep (fun b hb=>hB.block b (by rcases hb with hb|rfl;omega;exact h.lt.1)) (fun _ x=>x),(h.ents e he).2⟩,h.map.kept (hB.block _ h.map.lt),h.below.trans (hB.mono hsz),?_⟩;have:=hB.size;exact⟨by have:=h.lt.1;omega,by have:=h.lt.2;omega⟩
theorem HdC.put(h:HdC aM w M Bl base st S L wr)(hn:aM<=w.heap.size)(hM:w.heap.size<=M)(hMB:M≠Bl)(hMb:M<base){L':List Int}(hm:afo w' M L')(hg:wr.grownBy w' (some M)):HdC aM w M Bl base st S L' w':=by
 have hsz:=h.below.size;have hne:st.ownBlock≠some M:=fun e=>by have:=own_ge h.own e;omega
 refine⟨h.own.kept hg (.inr hne),fun e he=>⟨(h.ents e he).1.keep (fun b hb=>hg.block b (by rcases hb with hb|rfl;omega;exact h.lt.1) (fun e=>by cases e;rcases hb with hb|hb;omega;exact hMB hb)) (fun _ x=>x),(h.ents e he).2⟩,hm,h.below.grown hg (by omega) (fun k e=>by cases e;exact hM),?_⟩;have:=hg.size;exact⟨by have:=h.lt.1;omega,by have:=h.lt.2;omega⟩
theorem HdC.push(h:HdC aM w M Bl base st S L wr)(hn:aM<=w.heap.size)(hM:w.heap.size<=M)(hMb:M<base)(hBb:Bl<base)(hwb:w.heap.size<=base){st':Value}{ts:List T}{a:Option Addr}{c:Nat}{ob:Obj}(hA:aaj (fun b=>b<aM\/b=Bl) wr ts a c)(hne:ts≠[])
 (hown:w'.ownsRow base 58 1 st' (S.length+1) (alu S++[.slice a ts.length c])) (hgr:(wr.alloc ob).grownBy w' st.ownBlock):HdC aM w M Bl base st' (S++[(ts,a,c)]) L w':=by
 have hsz:=h.below.size;have hge:∀b,st.ownBlock=some b->base<=b:=fun b e=>own_ge h.own e
 have hk:∀b,b<wr.heap.size->b<base->w'.heap[b]? =wr.heap[b]? :=fun b hb hbb=>
  (hgr.block b (by simp;omega) (fun e=>by have:=hge b e.symm;omega)).trans (az _ _ _ hb)
 have hok:∀b,(b<aM\/b=Bl)->w'.heap[b]? =wr.heap[b]? :=fun b hb=>by
  rcases hb with hb|rfl
  ·exact hk b (by omega) (by omega)
  ·exact hk b h.lt.1 hBb
 refine⟨by simpa[alu] using hown,fun e he=> ?_,h.map.kept (hk M h.map.lt hMb),(h.below.alloc hsz ob).grown hgr (by simp;omega) (fun k e=>by have:=hge k e;omega),?_⟩
 ·rcases aG.1 he with he|he
  ·exact⟨(h.ents e he).1.keep hok (fun _ x=>x),(h.ents e he).2⟩
  ·rw[List.mem_singleton.1 he];exact⟨hA.keep hok (fun _ x=>x),hne⟩
 ·have:=hgr.size;simp at this;exact⟨by have:=h.lt.1;omega,by have:=h.lt.2;omega⟩
theorem HdC.stack{ts:List T}{a:Option Addr}{c:Nat}(h:HdC aM w M Bl base st (S++[(ts,a,c)]) L wr):
 ∃gs cap,st= .slice (some ⟨gs,0,none⟩) (S.length+1) cap/\S.length+1<=cap/\cap<=maxLen/\wr.cell? ⟨gs,S.length,none⟩=some (.slice a ts.length c)/\HdC aM w M Bl base (.slice (some ⟨gs,0,none⟩) S.length cap) S L wr:=by
 have hcells:=fun g hg=>h.own.cells (g:=g) hg;have hown:=h.own;simp only[aK,List.length_cons,List.length_nil,Nat.zero_add] at hown
 rcases hown.2 with⟨_,h0⟩|⟨gs,cap,cur,rfl,hb,hh,hn,hc,_⟩
 ·omega
 ·refine⟨gs,cap,rfl,hn,hc,?_,⟨avd (by simpa[alu] using hown),fun e he=>h.ents e (List.mem_append_left _ he),h.map,h.below,h.lt⟩⟩;have:=hcells gs rfl S.length (.slice a ts.length c) (by simp[alu]);rw[aaB] at this;simpa using this
theorem HdC.nilStack(h:HdC aM w M Bl base st [] L wr):∃a c,st= .slice a 0 c:=by
 rcases h.own.2 with⟨h,_⟩|⟨gs,cap,cur,h,_⟩
 ·exact⟨none,0,h⟩
 ·exact⟨_,_,h⟩
theorem HdC.len(h:HdC aM w M Bl base st S L wr):S.length<=ajT S:=by
 have h2:=h.ents;clear h
 induction S with
 |nil=>simp[ajT]
 |cons e S ih=>
  have h1:=ih (fun e he=>h2 e (aH _ he));have h3:=T.sizes_ge_length e.1;have h4:0<e.1.length:=List.length_pos_iff.2 (h2 e (List.mem_cons_self ..)).2;simp[ajT] at h1 ⊢;omega
end
theorem ave:(Tryz.prog.info? 58).map (fun i=>(i.zero,i.size,i.bytes))=some (some (.slice none 0 0),1,24):=by kernel_rfl
end Go.Proofs.YtabfapijgfjflaaGreat
namespace Go.Proofs.YtabfapijgfjflaaGreat
open Go.RowKit Go.Maps
theorem afo.entry{L:List Int}{D:DataW Unit}(h3:∀v,hwf v->Maps.has D (.int .i64 v)=decide (v∈L)/\(v∈L->∀z,D.atKey (.int .i64 v) z= .lit (.int .i64 (L.count v:Nat)))){x c:Int}(hx:(Lit.int .i64 x).wf=true)
 (hat:∀zd,D.atKey (.int .i64 x) zd= .lit (.int .i64 c)):x∈L/\c=(L.count x:Nat):=by
 obtain⟨q1,q2⟩:=h3 x (ahK hx);by_cases hm:x∈L
 ·refine⟨hm,?_⟩;have:=(hat .nil).symm.trans (q2 hm .nil);simpa using this
 ·have h1:=hat .nil;rw[Maps.atKey_of_not_has (by rw[q1];simp[hm])] at h1;cases h1
theorem agb(a b:Int):(Lit.int .i64 a).sameKey (.int .i64 b)=decide (a=b):=by
 by_cases h:a=b<;>simp[Lit.sameKey,h]
def ahL(f:Int->Int)(left:Lit->Bool):List Int->Int
 |[]=>0
 |h::L=>(if left (.int .i64 h) then 0 else f h)+ahL f left L
def adS(f:Int->Int):List Int->Int
 |[]=>0
 |h::L=>f h+adS f L
theorem ahM{f:Int->Int}{left:Lit->Bool}:∀{L:List Int},(∀h∈L,left (.int .i64 h)=true)->ahL f left L=0
 |[],_=>rfl
 |h::L,hl=>by
  have:=ahM (f:=f) (L:=L) (fun x hx=>hl x (aH _ hx));simp[ahL,hl h (List.mem_cons_self ..),this]
theorem aiT{f:Int->Int}{left:Lit->Bool}(hl:∀kl,left kl=false):∀{L:List Int},ahL f left L=adS f L
 |[]=>rfl
 |h::L=>by simp[ahL,adS,hl,aiT hl (L:=L)]
theorem aj5{f:Int->Int}{left:Lit->Bool}{x:Int}(hx:left (.int .i64 x)=true):∀{L:List Int},ahL f (fun z=>left z&& !z.sameKey (.int .i64 x)) L=ahL f left L+(L.count x:Nat)*f x
 |[]=>by simp[ahL]
 |h::L=>by
  have ih:=aj5 (f:=f) hx (L:=L);simp only[ahL,ih,agb];by_cases e:h=x
  ·subst e;simp[hx,List.count_cons,Int.add_mul];omega
  ·have e':¬h=x:=e;simp only[e',decide_false,Bool.not_false,Bool.and_true,List.count_cons_of_ne (fun q=>e q)];omega
theorem aeR{f:Int->Int}{left:Lit->Bool}:∀{L:List Int},(∀h∈L,0<=f h/\f h<=1000)->0<=ahL f left L/\ahL f left L<=1000*L.length
 |[],_=>by simp[ahL]
 |h::L,hl=>by
  have h1:=aeR (f:=f) (left:=left) (L:=L) (fun x hx=>hl x (aH _ hx));have h2:=hl h (List.mem_cons_self ..);simp only[ahL,List.length_cons];split<;>omega
theorem acd(f:Int->Int):∀(a b:List Int),adS f (a++b)=adS f a+adS f b
 |[],b=>by simp[adS]
 |h::a,b=>by simp[adS,acd f a b];omega
mutual
theorem aem(g:Sg):(t:T)->adS (wo g) t.hds=wtT g t
 | .node h ts=>by simp[T.hds,adS,wtT,agc g ts]
theorem agc(g:Sg):(ts:List T)->adS (wo g) (T.hdsL ts)=wtL g ts
 |[]=>rfl
 |t::ts=>by simp[T.hdsL,acd,wtL,aem g t,agc g ts]
end
def inS(g:Sg)(h:Int):Prop:=h<0\/h.toNat<g.length
mutual
theorem aeS{g:Sg}:(t:T)->aaL g t=true->bad (T.subs 1 t)=false->∀h∈t.hds,inS g h
 | .node h ts,hf,hb,x,hx=>by
   rcases List.mem_cons.1 hx with rfl|hx
   ·by_cases q:x<0
    ·exact .inl q
    ·simp only[aaL,q,decide_false,Bool.false_or,Bool.and_eq_true,acU] at hf;obtain⟨h1,_⟩:=hf;split at h1
     ·rename_i y hy;exact .inr (ah.1 hy).1
     ·simp at h1
   ·exact agd ts (acb hf hb) x hx
theorem agd{g:Sg}:(ts:List T)->(∀t∈ts,aaL g t=true/\bad (T.subs 1 t)=false)->∀h∈T.hdsL ts,inS g h
 |[],_,x,hx=>by simp[T.hdsL] at hx
 |t::ts,h,x,hx=>by
  rcases aG.1 hx with hx|hx
  ·exact aeS t (h t (List.mem_cons_self ..)).1 (h t (List.mem_cons_self ..)).2 x hx
  ·exact agd ts (fun s hs=>h s (aH _ hs)) x hx
end
theorem acZ{g:Sg}(hr:aan g=true){h:Int}(hs:inS g h):1<=wo g h/\wo g h<=1000:=by
 unfold wo
 rcases hs with hs|hs
 ·simp[hs]
 ·by_cases q:h<0
  ·simp[q]
  ·rw[if_neg q,ai hs];simp only[aan,Bool.and_eq_true,Bool.not_eq_true',List.any_eq_false] at hr;have:=hr.1.2 g[h.toNat] (List.getElem_mem hs);simp only[acT,Bool.or_eq_true,decide_eq_true_eq,not_or] at this;dsimp only;omega
theorem aoO(n:Nat)(z:Int)(h1:n<=400)(h2:0<=z)(h3:z<=1000):0<=(n:Int)*z/\(n:Int)*z<=400000:=by
 have h0:(0:Int)<=(n:Int):=aw _;refine⟨Int.mul_nonneg h0 h2,?_⟩;have q1:(n:Int)*z<=400*z:=Int.mul_le_mul_of_nonneg_right (by omega) h2;omega
def ac0(g:Sg)(t:T):Value:=if aaH g t=0 then .tuple #[.int .i64 (wtT g t),.int .i64 0] else .tuple #[.int .i64 0,.int .i64 (aaH g t)]
theorem aaR{g:Sg}{t:T}(h:aaH g t=0):aan g=true/\t.check=0/\aaL g t=true/\abu g t.args=false:=by
 unfold aaH at h;by_cases h1:aan g=true
 ·rw[if_pos h1] at h;by_cases h2:t.check=0
  ·rw[if_pos h2] at h;by_cases h3:aaL g t=true
   ·rw[if_pos h3] at h;by_cases h4:abu g t.args=true
    ·rw[if_pos h4] at h;cases h
    ·exact⟨h1,h2,h3,by simpa using h4⟩
   ·rw[if_neg h3] at h;cases h
  ·rw[if_neg h2] at h;exact absurd h h2
 ·rw[if_neg h1] at h;cases h
end Go.Proofs.YtabfapijgfjflaaGreat
namespace Go.Proofs.YtabfapijgfjflaaGreat
open Go.RowKit
theorem amv{t:T}(h1:t.size<=400)(h2:t.depth<=40)(h3:bad (T.subs 1 t)=false):t.check=0:=by
 unfold T.check;rw[if_neg (by omega),if_neg (by omega),h3];rfl
theorem aj6:∀{ts:List T} {s:T},s∈ts->s.depth<=T.depths ts
 |t::ts,s,h=>by
  simp only[T.depths]
  rcases List.mem_cons.1 h with rfl|h
  ·omega
  ·have:=aj6 h;omega
theorem afK:∀{ts:List T} {s:T},s∈ts->s.size<=T.sizes ts
 |t::ts,s,h=>by
  simp only[T.sizes]
  rcases List.mem_cons.1 h with rfl|h
  ·omega
  ·have:=afK h;omega
def OkT(g:Sg)(t:T):Prop:=t.check=0/\aaL g t=true/\abu g t.args=false
theorem atA{g:Sg}{t:T}(hr:aan g=true):aaH g t=0↔OkT g t:=by
 constructor
 ·intro h;obtain⟨_,h2,h3,h4⟩:=aaR h;exact⟨h2,h3,h4⟩
 ·rintro⟨h2,h3,h4⟩;unfold aaH;rw[if_pos hr,if_pos h2,if_pos h3,h4];rfl
theorem OkT.arg{g:Sg}{t s:T}(h:OkT g t)(hs:s∈t.args):OkT g s:=by
 obtain⟨h1,h2,h3⟩:=h;obtain⟨c1,c2,c3⟩:=aam h1;obtain⟨f1,f2⟩:=acb h2 c3 s hs;refine⟨amv (by have:=afK hs;have:=T.size_eq t;omega) (by have:=aj6 hs;have:=T.depth_eq t;omega) f2,f1,?_⟩;rw[aaY,List.any_eq_false] at h3;have:=h3 s hs;rw[abc] at this;simp only[Bool.or_eq_true,not_or,Bool.not_eq_true] at this;exact this.2
theorem OkT.heads{g:Sg}{t:T}(h:OkT g t):∀x∈t.hds,inS g x:=aeS t h.2.1 (aam h.1).2.2
theorem age{f:Int->Int}:∀{L:List Int},(∀h∈L,0<=f h)->0<=adS f L
 |[],_=>by simp[adS]
 |h::L,hl=>by
  have h1:=age (L:=L) (fun x hx=>hl x (aH _ hx));have h2:=hl h (List.mem_cons_self ..);simp only[adS];omega
theorem asU{g:Sg}{t:T}(hr:aan g=true)(h:OkT g t):1<=wtT g t:=by
 have hh:=h.heads;rw[avb];have h1:=(acZ hr (hh t.head (by rw[T.hds_eq];simp))).1
 have h2:0<=wtL g t.args:=by
  rw[←agc];exact age (fun x hx=>by have:=(acZ hr (hh x (by rw[T.hds_eq];simp[hx]))).1;omega)
 omega
mutual
def T.same:T->T->Bool
 | .node h ts,.node k us=>decide (h=k)&&T.sameL ts us
def T.sameL:List T->List T->Bool
 |[],[]=>true
 |t::ts,u::us=>T.same t u&&T.sameL ts us
 |[],_::_=>false
 |_::_,[]=>false
end
mutual
theorem T.same_iff:(a b:T)->(T.same a b=true↔a=b)
 | .node h ts,.node k us=>by
   have:=T.sameL_iff ts us;simp only[T.same,Bool.and_eq_true,decide_eq_true_eq,this,T.node.injEq]
theorem T.sameL_iff:(a b:List T)->(T.sameL a b=true↔a=b)
 |[],[]=>by simp[T.sameL]
 |t::ts,u::us=>by
  have h1:=T.same_iff t u;have h2:=T.sameL_iff ts us;simp only[T.sameL,Bool.and_eq_true,h1,h2,List.cons.injEq]
 |[],_::_=>by simp[T.sameL]
 |_::_,[]=>by simp[T.sameL]
end
theorem T.same_self(a:T):T.same a a=true:=(T.same_iff a a).2 rfl
theorem T.same_ne{a b:T}(h:a≠b):T.same a b=false:=by
 cases hs:T.same a b
 ·rfl
 ·exact absurd ((T.same_iff a b).1 hs) h
def awA(a b:T):Bool:=b.hds.all fun h=> !decide (h<0)||decide (b.hds.count h<=a.hds.count h)
def Oft(a b:T):Prop:=∀h:Int,h<0->b.hds.count h<=a.hds.count h
theorem atB{a b:T}:awA a b=true↔Oft a b:=by
 simp only[awA,List.all_eq_true,Bool.or_eq_true,Bool.not_eq_true',decide_eq_false_iff_not,decide_eq_true_eq];constructor
 ·intro h x hx;by_cases hm:x∈b.hds
  ·rcases h x hm with h|h
   ·exact absurd hx h
   ·exact h
  ·rw[List.count_eq_zero.2 hm];exact Nat.zero_le _
 ·intro h x _;by_cases hx:x<0
  ·exact .inr (h x hx)
  ·exact .inl hx
mutual
def gtK(g:Sg):T->T->Bool
 | .node h ts,b=>awA (.node h ts) b&&(if wtT g (.node h ts)=wtT g b then !decide (h<0)&&(!decide (b.head<0)&&(if h=b.head then gtL g ts b.args else decide (b.head<h))) else decide (wtT g b<wtT g (.node h ts)))
def gtL(g:Sg):List T->List T->Bool
 |t::ts,u::us=>if T.same t u then gtL g ts us else gtK g t u
 |_,_=>false
end
theorem asV(g:Sg)(a b:T):gtK g a b=(awA a b&&(if wtT g a=wtT g b then !decide (a.head<0)&&(!decide (b.head<0)&&(if a.head=b.head then gtL g a.args b.args else decide (b.head<a.head))) else decide (wtT g b<wtT g a))):=by
 cases a;rw[gtK];rfl
theorem agf{g:Sg}{a b:T}:gtK g a b=true↔Oft a b/\(wtT g b<wtT g a\/(wtT g a=wtT g b/\0<=a.head/\0<=b.head/\(b.head<a.head\/(a.head=b.head/\gtL g a.args b.args=true)))):=by
 rw[asV,Bool.and_eq_true,atB];refine and_congr_right fun _=> ?_;by_cases hw:wtT g a=wtT g b
 ·rw[if_pos hw];by_cases hh:a.head=b.head
  ·rw[if_pos hh];simp only[Bool.and_eq_true,Bool.not_eq_true',decide_eq_false_iff_not];constructor
   ·rintro⟨h1,h2,h3⟩;exact .inr ⟨hw,by omega,by omega,.inr ⟨hh,h3⟩⟩
   ·rintro(h|⟨_,h1,h2,h3⟩)
    ·omega
    ·rcases h3 with h3|h3
     ·omega
     ·exact⟨by omega,by omega,h3.2⟩
  ·rw[if_neg hh];simp only[Bool.and_eq_true,Bool.not_eq_true',decide_eq_false_iff_not,decide_eq_true_eq];constructor
   ·rintro⟨h1,h2,h3⟩;exact .inr ⟨hw,by omega,by omega,.inl h3⟩
   ·rintro(h|⟨_,h1,h2,h3⟩)
    ·omega
    ·rcases h3 with h3|h3
     ·exact⟨by omega,by omega,h3⟩
     ·exact absurd h3.1 hh
 ·rw[if_neg hw,decide_eq_true_eq];constructor
  ·exact .inl
  ·rintro(h|h)
   ·exact h
   ·exact absurd h.1 hw
theorem arn(g:Sg)(ts:List T):gtL g ts ts=false:=by
 induction ts with
 |nil=>simp[gtL]
 |cons t ts ih=>simp[gtL,T.same_self,ih]
theorem amw(g:Sg)(a:T):gtK g a a=false:=by
 rw[asV];simp[arn]
theorem aoP{g:Sg}{a b:T}(h:gtK g a b=true):a≠b:=fun e=>by rw[e,amw] at h;cases h
theorem aj7{g:Sg}:∀{ts us vs:List T},(∀t∈ts,∀u v,gtK g t u=true->gtK g u v=true->gtK g t v=true)->gtL g ts us=true->gtL g us vs=true->gtL g ts vs=true
 |[],us,vs,_,h,_=>by simp[gtL] at h
 |t::ts,[],vs,_,h,_=>by simp[gtL] at h
 |t::ts,u::us,[],_,_,h=>by simp[gtL] at h
 |t::ts,u::us,v::vs,hT,h1,h2=>by
  rw[gtL] at h1 h2 ⊢;by_cases e1:t=u
  ·subst e1;rw[T.same_self,if_pos rfl] at h1;by_cases e2:t=v
   ·subst e2;rw[T.same_self,if_pos rfl] at h2 ⊢;exact aj7 (fun s hs=>hT s (aH _ hs)) h1 h2
   ·rw[T.same_ne e2,if_neg (by simp)] at h2 ⊢;exact h2
  ·rw[T.same_ne e1,if_neg (by simp)] at h1;by_cases e2:u=v
   ·subst e2;rw[T.same_ne e1,if_neg (by simp)];exact h1
   ·rw[T.same_ne e2,if_neg (by simp)] at h2;have h3:=hT t (List.mem_cons_self ..) u v h1 h2;rw[T.same_ne (aoP h3),if_neg (by simp)];exact h3
theorem aoQ{g:Sg}:∀(N:Nat) (a b c:T),a.size<=N->gtK g a b=true->gtK g b c=true->gtK g a c=true:=by
 intro N
 induction N with
 |zero=>intro a b c ha;have:=T.size_pos a;omega
 |succ N ih=>
  intro a b c ha h1 h2;obtain⟨o1,p1⟩:=agf.1 h1;obtain⟨o2,p2⟩:=agf.1 h2;refine agf.2 ⟨fun h hn=>aE (o2 h hn) (o1 h hn),?_⟩
  rcases p1 with p1|⟨w1,a1,b1,q1⟩
  ·rcases p2 with p2|⟨w2,_⟩
   ·exact .inl (by omega)
   ·exact .inl (by omega)
  ·rcases p2 with p2|⟨w2,b2,c2,q2⟩
   ·exact .inl (by omega)
   ·refine .inr ⟨by omega,a1,c2,?_⟩
    rcases q1 with q1|⟨e1,l1⟩
    ·rcases q2 with q2|⟨e2,_⟩
     ·exact .inl (by omega)
     ·exact .inl (by omega)
    ·rcases q2 with q2|⟨e2,l2⟩
     ·exact .inl (by omega)
     ·refine .inr ⟨by omega,aj7 (fun t ht u v hu hv=>ih t u v ?_ hu hv) l1 l2⟩;have:=afK ht;have:=T.size_eq a;omega
theorem aro{g:Sg}{a b:T}(h:gtK g a b=true):gtK g b a=false:=by
 cases hb:gtK g b a
 ·rfl
 ·have:=aoQ a.size a b a (af _) h hb;rw[amw] at this;cases this
theorem anB{g:Sg}{a b:T}(ha:aaL g a=true)(hb:aaL g b=true)(h0:0<=a.head)(h:a.head=b.head):a.args.length=b.args.length:=by
 rw[aa4] at ha hb;simp only[show ¬a.head<0 from by omega,show ¬b.head<0 from by omega,decide_false,Bool.false_or,Bool.and_eq_true,acU] at ha hb;rw[h] at ha;obtain⟨h1,_⟩:=ha;obtain⟨h2,_⟩:=hb;cases hx:g[b.head.toNat]? with
 |none=>rw[hx] at h1;simp at h1
 |some x=>
  rw[hx] at h1 h2;simp only[decide_eq_true_eq] at h1 h2;omega
def abp(g:Sg)(a b:T):Int:=if T.same a b then 0 else if gtK g a b then 1 else if gtK g b a then-1 else 2
theorem aeT{g:Sg}{a b:T}:abp g a b=0↔a=b:=by
 unfold abp;constructor
 ·intro h;by_cases e:a=b
  ·exact e
  ·rw[T.same_ne e,if_neg (by simp)] at h;split at h
   ·cases h
   ·split at h<;>cases h
 ·rintro rfl;rw[T.same_self,if_pos rfl]
theorem ahN{g:Sg}{a b:T}:abp g a b=1↔gtK g a b=true:=by
 unfold abp;constructor
 ·intro h;split at h
  ·cases h
  ·split at h
   ·assumption
   ·split at h<;>cases h
 ·intro h;rw[T.same_ne (aoP h),if_neg (by simp),if_pos h]
theorem anC{g:Sg}{a b:T}:abp g a b= -1↔gtK g b a=true:=by
 unfold abp;constructor
 ·intro h;split at h
  ·cases h
  ·split at h
   ·cases h
   ·split at h
    ·assumption
    ·cases h
 ·intro h;rw[T.same_ne (fun e=>aoP h e.symm),if_neg (by simp),aro h,if_neg (by simp),if_pos h]
theorem agh(g:Sg)(a b:T):(abp g a b=0/\a=b)\/(abp g a b=1/\gtK g a b=true)\/(abp g a b= -1/\gtK g b a=true)\/(abp g a b=2/\a≠b/\gtK g a b=false/\gtK g b a=false):=by
 unfold abp;by_cases e:a=b
 ·subst e;rw[T.same_self,if_pos rfl];exact .inl ⟨rfl,rfl⟩
 ·rw[T.same_ne e,if_neg (by simp)];cases h1:gtK g a b
  ·cases h2:gtK g b a
   ·exact .inr (.inr (.inr ⟨rfl,e,rfl,rfl⟩))
   ·exact .inr (.inr (.inl ⟨rfl,rfl⟩))
  ·exact .inr (.inl ⟨rfl,rfl⟩)
instance instDecT:DecidableEq T:=fun a b=>decidable_of_iff _ (T.same_iff a b)
def acA:List T->List T->List T
 |[],_=>[]
 |t::a,b=>if t∈b then acA a (b.erase t) else t::acA a b
theorem ad2(z:T):∀(a b:List T),(acA a b).count z=a.count z-b.count z
 |[],b=>by simp[acA]
 |t::a,b=>by
  rw[acA];by_cases h:t∈b
  ·rw[if_pos h,ad2 z a (b.erase t),List.count_cons,List.count_erase];by_cases e:t=z
   ·subst e;have:0<b.count t:=List.count_pos_iff.2 h;simp;omega
   ·have e1:(t==z)=false:=by simpa using e
    simp[e1]
  ·rw[if_neg h,List.count_cons,ad2 z a b,List.count_cons];by_cases e:t=z
   ·subst e;rw[List.count_eq_zero.2 h];simp
   ·have e1:(t==z)=false:=by simpa using e
    simp[e1]
theorem aj8{z:T}{a b:List T}:z∈acA a b↔b.count z<a.count z:=by
 rw[←List.count_pos_iff,ad2];omega
def alv(g:Sg)(x y:List T):Bool:=decide (x≠[])&&y.all fun u=>x.any fun t=>gtK g t u
theorem agi{g:Sg}{x y x' y':List T}(h1:∀z,z∈x↔z∈x')(h2:∀z,z∈y↔z∈y'):alv g x y=alv g x' y':=by
 rw[Bool.eq_iff_iff]
 have hn:x=[]↔x'=[]:=by
  simp only[List.eq_nil_iff_forall_not_mem,h1]
 simp only[alv,Bool.and_eq_true,decide_eq_true_eq,List.all_eq_true,List.any_eq_true,ne_eq,hn,h2];simp only[h1]
def acB(g:Sg)(a b:List T):Int:=if acA a b=[]/\acA b a=[] then 0 else if alv g (acA a b) (acA b a) then 1 else if alv g (acA b a) (acA a b) then-1 else 2
def aeM(n:Bool)(l r:T):List T:=if n then[l,l,r,r] else[l,r]
def acC(l r l' r':T):Prop:=(l=l'/\r=r')\/(l=r'/\r=l')
theorem anD(v:Int)(w:World)(h1: -9223372036854775808<=v)(h2:v<=9223372036854775807):
 Calls Tryz.prog 33 #[.int .i64 v] w fun e w'=>e= .returned (tm (-1-v) none 0 0)/\Below w.heap.size w w':=by
 go_enter Tryz.func33,Tryz.ntmps33;go_wp2;exact bodyPost_ret (v:=tm (-1-v) none 0 0) (by simp[results,Tryz.results33,go_sem]) rfl ⟨rfl,((ag _ _).alloc (af _) _)⟩
abbrev Sb:=List (Int×T)
def vt(v:Int):T:= .node (-1-v) []
def ofS:Sb->Int->T
 |[],v=>vt v
 |(x,t)::s,v=>if x=v then t else ofS s v
mutual
def T.sub(f:Int->T):T->T
 | .node h ts=>if h<0 then f (-1-h) else .node h (T.subl f ts)
def T.subl(f:Int->T):List T->List T
 |[]=>[]
 |t::ts=>t.sub f::T.subl f ts
end
theorem T.subl_map(f:Int->T)(ts:List T):T.subl f ts=ts.map (T.sub f):=by
 induction ts with
 |nil=>rfl
 |cons t ts ih=>simp[T.subl,ih]
theorem T.sub_eq(f:Int->T)(t:T):t.sub f=if t.head<0 then f (-1-t.head) else .node t.head (t.args.map (T.sub f)):=by
 cases t;rw[T.sub,T.subl_map];rfl
theorem T.sub_neg{f:Int->T}{t:T}(h:t.head<0):t.sub f=f (-1-t.head):=by rw[T.sub_eq,if_pos h]
theorem T.sub_pos{f:Int->T}{t:T}(h:¬t.head<0):t.sub f= .node t.head (t.args.map (T.sub f)):=by rw[T.sub_eq,if_neg h]
def abX(l:Int):Sb->Bool
 |[]=>true
 |(x,t)::s=>(decide (l<=x)&&decide (x<=255)&&decide (t.check=0)&&decide (t.head≠ -1-x))&&abX (x+1) s
def IsB(aM:Nat)(W:World)(x:Int×T)(b o:Nat):Prop:=(Lit.int .i64 x.1).wf=true/\W.cell? ⟨b,o,none⟩=some (.int .i64 x.1)/\IsT aM W x.2 b (o+1)
def ahj(aM:Nat)(W:World)(s:Sb)(a:Option Addr)(c:Nat):Prop:=
 s.length<=c/\c<=maxLen/\(s=[]\/∃b o,a=some ⟨b,o,none⟩/\b<aM/\∀(j:Nat) (x:Int×T),s[j]? =some x->IsB aM W x b (o+j*3))
theorem ahj.below{aM:Nat}{w w':World}{s:Sb}{a:Option Addr}{c:Nat}(h:ahj aM w s a c)(hb:Below aM w w'):ahj aM w' s a c:=by
 obtain⟨h1,h2,h3⟩:=h;refine⟨h1,h2,?_⟩
 rcases h3 with h3|⟨b,o,h4,h5,h6⟩
 ·exact .inl h3
 ·refine .inr ⟨b,o,h4,h5,fun j x hx=> ?_⟩;obtain⟨p1,p2,p3⟩:=h6 j x hx;exact⟨p1,(hb.cell (p:=⟨b,_,none⟩) h5).trans p2,p3.below hb h5⟩
theorem ahj.mono{aM aN:Nat}{w:World}{s:Sb}{a:Option Addr}{c:Nat}(h:ahj aM w s a c)(hn:aM<=aN):ahj aN w s a c:=by
 obtain⟨h1,h2,h3⟩:=h;refine⟨h1,h2,?_⟩
 rcases h3 with h3|⟨b,o,h4,h5,h6⟩
 ·exact .inl h3
 ·exact .inr ⟨b,o,h4,by omega,fun j x hx=>⟨(h6 j x hx).1,(h6 j x hx).2.1,(h6 j x hx).2.2.mono hn⟩⟩
theorem ahj.nil(aM:Nat)(w:World)(a:Option Addr){c:Nat}(hc:c<=maxLen):ahj aM w [] a c:=⟨by simp,hc,.inl rfl⟩
theorem ahj.elem{aM:Nat}{w:World}{s:Sb}{a:Option Addr}{c:Nat}(h:ahj aM w s a c){i:Nat}(hi:i<s.length):
 ∃(b o:Nat) (v:Int) (t:T) (a':Option Addr) (c':Nat),a=some ⟨b,o,none⟩/\b<aM/\s[i]? =some (v,t)/\(Lit.int .i64 v).wf=true/\(Lit.int .i64 t.head).wf=true/\w.cell? ⟨b,o+i*3,none⟩=some (.int .i64 v)/\w.cell? ⟨b,o+i*3+1,none⟩=some (.int .i64 t.head)/\
  w.cell? ⟨b,o+i*3+2,none⟩=some (.slice a' t.args.length c')/\aab aM w t.args a' c':=by
 obtain⟨_,_,h3⟩:=h
 rcases h3 with rfl|⟨b,o,rfl,h4,h5⟩
 ·simp at hi
 ·obtain⟨p0,p1,p2⟩:=h5 i _ (ai hi);obtain⟨q0,q1,a',c',q2,q3⟩:=aaO.1 p2;exact⟨b,o,s[i].1,s[i].2,a',c',rfl,h4,ai hi,p0,q0,p1,q1,q2,q3⟩
theorem alw{l:Int}{s:Sb}{k:Nat}{x:Int}{t:T}(h:s[k]? =some (x,t)):abX l (s.drop k)=((decide (l<=x)&&decide (x<=255)&&decide (t.check=0)&&decide (t.head≠ -1-x))&&abX (x+1) (s.drop (k+1))):=by
 obtain⟨hk,e⟩:=ah.1 h;rw[aD hk,e,abX]
structure Lt3 where
 neg:Bool
 l:T
 r:T
 deriving DecidableEq
def Lt3.row(x:Lt3):List T:=aeM x.neg x.l x.r
def sameL(a b:Lt3):Prop:=a.neg=b.neg/\acC a.l a.r b.l b.r
theorem acC.symm{l r l' r':T}(h:acC l r l' r'):acC l' r' l r:=by
 rcases h with⟨rfl,rfl⟩|⟨rfl,rfl⟩
 ·exact .inl ⟨rfl,rfl⟩
 ·exact .inr ⟨rfl,rfl⟩
theorem acC.trans{l r l' r' l2 r2:T}(h:acC l r l' r')(k:acC l' r' l2 r2):acC l r l2 r2:=by
 rcases h with⟨rfl,rfl⟩|⟨rfl,rfl⟩
 ·exact k
 ·rcases k with⟨rfl,rfl⟩|⟨rfl,rfl⟩
  ·exact .inr ⟨rfl,rfl⟩
  ·exact .inl ⟨rfl,rfl⟩
theorem sameL.refl(a:Lt3):sameL a a:=⟨rfl,.inl ⟨rfl,rfl⟩⟩
theorem sameL.symm{a b:Lt3}(h:sameL a b):sameL b a:=⟨h.1.symm,h.2.symm⟩
theorem sameL.trans{a b c:Lt3}(h:sameL a b)(k:sameL b c):sameL a c:=⟨h.1.trans k.1,h.2.trans k.2⟩
def Lt3.sub(f:Int->T)(a:Lt3):Lt3:=⟨a.neg,a.l.sub f,a.r.sub f⟩
theorem aj9{g:Sg}:ahq g=true↔∀(i k:Nat) (x y:Sy),k<i->g[i]? =some x->g[k]? =some y->y.name≠x.name:=by
 constructor
 ·intro h i k x y hk hi hy e;have hl:=(ah.1 hi).1;have h1:=List.all_eq_true.1 h i (List.mem_range.2 hl);rw[hi] at h1;simp only[decide_eq_true_eq] at h1;obtain⟨_,_,_,h4⟩:=adm h1;exact h4 k y hk hy e
 ·intro h;refine List.all_eq_true.2 fun i hi=> ?_;have hl:=List.mem_range.1 hi;have hx:=ai hl;rw[hx];simp only[decide_eq_true_eq];exact aj1 (fun j y hj hy=>h i j _ y hj hx hy) hx rfl
def avf(g:Sg)(k:Nat):Prop:=∀(i j:Nat) (x y:Sy),i<k->j<i->g[i]? =some x->g[j]? =some y->y.name≠x.name
theorem arp{g:Sg}:avf g g.length↔ahq g=true:=by
 rw[aj9];constructor
 ·intro h i k x y hk hi hy;exact h i k x y (ah.1 hi).1 hk hi hy
 ·intro h i j x y _ hj hi hy;exact h i j x y hj hi hy
theorem aoR{g:Sg}{k:Nat}{x:Sy}(hx:g[k]? =some x):avf g (k+1)↔avf g k/\∀(j:Nat) (y:Sy),j<k->g[j]? =some y->y.name≠x.name:=by
 constructor
 ·intro h;exact⟨fun i j a b hi hj ha hb=>h i j a b (by omega) hj ha hb,fun j y hj hy=>h k j x y (by omega) hj hx hy⟩
 ·rintro⟨h1,h2⟩ i j a b hi hj ha hb;by_cases e:i=k
  ·subst e;rw[hx] at ha;obtain rfl:=Option.some.inj ha;exact h2 j b hj hb
  ·exact h1 i j a b (by omega) hj ha hb
theorem aoS(ts:List T):T.hdsL ts=(ts.map T.hds).flatten:=by
 induction ts with
 |nil=>rfl
 |cons t ts ih=>simp[T.hdsL,ih]
theorem anE{F:T->List Int}(hF:∀t,F t=t.head::(t.args.map F).flatten):∀(N:Nat) (t:T),t.size<=N->F t=t.hds:=by
 intro N
 induction N with
 |zero=>intro t ht;have:=T.size_pos t;omega
 |succ N ih=>
  intro t ht;rw[hF,T.hds_eq,aoS]
  congr 2
  exact List.map_congr_left fun s hs=>ih s (by have:=afK hs;have:=T.size_eq t;omega)
theorem anF{g:Sg}{ts:List T}{k:Nat}{s:T}(h:ts[k]? =some s):af5 g (ts.take (k+1))=(af5 g (ts.take k)&&aaL g s):=by
 obtain⟨hi,e⟩:=ah.1 h;rw[aI hi,abV,abV,List.all_append,e];simp
theorem aoT{g:Sg}{ts:List T}{k:Nat}{s:T}(h:ts[k]? =some s)(hf:aaL g s=false):af5 g ts=false:=by
 rw[abV,List.all_eq_false];exact⟨s,ak h,by simp[hf]⟩
theorem anG{g:Sg}{ts:List T}{k:Nat}{s:T}(h:ts[k]? =some s):abu g (ts.take (k+1))=(abu g (ts.take k)||adQ g s):=by
 obtain⟨hi,e⟩:=ah.1 h;rw[aI hi,aaY,aaY,List.any_append,e];simp
theorem aka{g:Sg}{ts:List T}{k:Nat}{s:T}(h:ts[k]? =some s)(hp:adQ g s=true):abu g ts=true:=by
 rw[aaY,List.any_eq_true];exact⟨s,ak h,hp⟩
theorem amx{g:Sg}:∀{ts us:List T} {k:Nat},ts.take k=us.take k->ts.length=us.length->gtL g ts us=gtL g (ts.drop k) (us.drop k)
 |ts,us,0,_,_=>by simp
 |[],[],k+1,_,_=>by simp
 |[],_::_,k+1,_,hl=>by simp at hl
 |_::_,[],k+1,_,hl=>by simp at hl
 |t::ts,u::us,k+1,h,hl=>by
  simp only[List.take_succ_cons,List.cons.injEq] at h;obtain⟨rfl,h⟩:=h;rw[gtL,T.same_self,if_pos rfl];simp only[List.drop_succ_cons];exact amx h (by simpa using hl)
theorem asW{g:Sg}{ts us:List T}{k:Nat}{t u:T}(h:ts.take k=us.take k)(hl:ts.length=us.length)(ht:ts[k]? =some t)(hu:us[k]? =some u)(hne:t≠u):gtL g ts us=gtK g t u:=by
 rw[amx h hl];obtain⟨h1,e1⟩:=ah.1 ht;obtain⟨h2,e2⟩:=ah.1 hu;rw[aD h1,aD h2,e1,e2,gtL,T.same_ne hne,if_neg (by simp)]
end Go.Proofs.YtabfapijgfjflaaGreat
