import Derived.Test.YtabfapijgfjflaaGreatMQBu
import Derived.Test.YtabfapijgfjflaaGreatMQBp
import Derived.Lib.AppendZerosOnto
import Derived.Lib.SliceRun
import Derived.Deep.RegionLaw
import Derived.Test.YtabfapijgfjflaaGreatMQBc
import Derived.Laws.OwnMore
import Derived.Shelf.RegionOpenPlain
import Derived.Test.YtabfapijgfjflaaGreatMQBk
import Derived.Test.YtabfapijgfjflaaGreatMQBb
import Derived.Test.YtabfapijgfjflaaGreatMQBn
import Derived.BigQuiet
import Derived.Deep.QuietTactic
import Derived.Lib.QuietBelow
import Derived.Test.YtabfapijgfjflaaGreatMAl
set_option linter.unusedVariables false
set_option linter.unusedSimpArgs false
set_option maxRecDepth 100000
set_option maxHeartbeats 4000000
namespace Go.Proofs.YtabfapijgfjflaaGreat
open Go.RowKit
theorem apZ:(Tryz.prog.info? 44).map (fun i=>(i.zero,i.size,i.bytes))=some (some (.agg #[.slice none 0 0,.int .i64 0,.int .i64 0,.slice none 0 0,.slice none 0 0]),5,88):=by kernel_rfl
def aay(P:List GV):List Value:=(P.map GV.cells).flatten
theorem aeB(P:List GV):(aay P).length=P.length*5:=by
 induction P with
 |nil=>rfl
 |cons x P ih=>simp only[aay,List.map_cons,List.flatten_cons,aK] at*;simp[ih];omega
theorem aeC(P Q:List GV):aay (P++Q)=aay P++aay Q:=by simp[aay]
theorem ae7{P:List GV}{j:Nat}{x:GV}(h:P[j]? =some x):(aay P)[j*5]? =some (.slice x.pc x.P.length x.cc)/\(aay P)[j*5+1]? =some (.int .i64 x.i)/\(aay P)[j*5+2]? =some (.int .i64 x.k)/\(aay P)[j*5+3]? =some (.slice x.pp x.zs.length x.cp)/\(aay P)[j*5+4]? =some (.slice x.pb x.s.length x.cb):=by
 induction P generalizing j with
 |nil=>simp at h
 |cons y P ih=>
  cases j with
  |zero=>
   simp at h;subst h;exact⟨rfl,rfl,rfl,rfl,rfl⟩
  |succ j=>
   have:=ih (j:=j) (by simpa using h)
   have e:∀i,(aay (y::P))[(j+1)*5+i]? =(aay P)[j*5+i]? :=fun i=>by
    simp only[aay,List.map_cons,List.flatten_cons];rw[List.getElem?_append_right (by simp;omega)]
    congr 1
    simp;omega
   exact⟨(e 0).trans this.1,(e 1).trans this.2.1,(e 2).trans this.2.2.1,(e 3).trans this.2.2.2.1,(e 4).trans this.2.2.2.2⟩
def OG(aN:Nat)(v:Value)(P:List GV)(W:World):Prop:=W.ownsRow aN 44 5 v P.length (aay P)/\∀x∈P,ans aN W x
theorem OG.nil(aN:Nat)(W:World):OG aN (.slice none 0 0) [] W:=⟨⟨by simp[aay],.inl ⟨rfl,rfl⟩⟩,by simp⟩
theorem OG.block{aN:Nat}{v:Value}{P:List GV}{W:World}(h:OG aN v P W){g:Nat}(hg:v.ownBlock=some g):aN<=g/\g<W.heap.size:=by
 obtain⟨a,b,_⟩:=Mm.rowBlock h.1 hg;exact⟨a,b⟩
theorem OG.args{aN:Nat}{v:Value}{P:List GV}{W:World}(h:OG aN v P W)(hn:aN<=W.heap.size):∃a c,v= .slice a P.length c/\ahl W.heap.size W P a c:=by
 have hbl:=fun g (hg:v.ownBlock=some g)=>h.block hg;have hcells:=fun g hg=>h.1.cells (g:=g) hg
 rcases h.1.2 with⟨rfl,h0⟩|⟨g,cap,cur,rfl,hb,hh,hn',hc,hs,_⟩
 ·have:P=[]:=aC h0;subst this;exact⟨none,0,rfl,ahl.nil _ _ _ (by simp[maxLen])⟩
 ·refine⟨_,cap,rfl,hn',hc,.inr ⟨g,0,rfl,(hbl g rfl).2,fun j x hx=>⟨?_,(h.2 x (ak hx)).mono hn⟩⟩⟩
  have hc5:∀i u,(aay P)[i]? =some u->W.cell? ⟨g,i,none⟩=some u:=fun i u hu=>by
   have:=hcells g rfl i u hu;rw[aaB] at this;simpa using this
  obtain⟨g0,g1,g2,g3,g4⟩:=ae7 hx;simp only[Nat.zero_add];exact⟨hc5 _ _ g0,hc5 _ _ g1,hc5 _ _ g2,hc5 _ _ g3,hc5 _ _ g4⟩
def avQ(w:World)(Q:List GV)(a:Option Addr)(c:Nat):Prop:=
 (a=none->c=0/\Q=[])/\∀ad,a=some ad->∀j u,(aay Q)[j]? =some u->w.cell? (ad.add j)=some u
theorem avQ.of_gs{aN:Nat}{w:World}{Q:List GV}{a:Option Addr}{c:Nat}(hA:ahl aN w Q a c)(hnil:a=none->c=0):avQ w Q a c:=by
 refine⟨fun h=>⟨hnil h,?_⟩,fun ad e j u hj=> ?_⟩
 ·rcases hA.2.2 with h'|⟨b,o,h',_⟩
  ·exact h'
  ·rw[h] at h';cases h'
 ·rcases hA.2.2 with rfl|⟨b,o,rfl,hb,hr⟩
  ·simp[aay] at hj
  ·cases e;rw[aaB];have hjl:j<Q.length*5:=by rw[←aeB];exact(ah.1 hj).1
   have hx:Q[j/5]? =some Q[j/5]:=ai (by omega);obtain⟨⟨c0,c1,c2,c3,c4⟩,_⟩:=hr _ _ hx;obtain⟨g0,g1,g2,g3,g4⟩:=ae7 hx;have hm:j%5=0\/j%5=1\/j%5=2\/j%5=3\/j%5=4:=by omega
   rcases hm with e|e|e|e|e
   ·have hj5:j=j/5*5:=by omega
    have:(aay Q)[j]? =(aay Q)[j/5*5]? :=by rw[←hj5]
    rw[this,g0] at hj;cases hj
    have:o+j=o+j/5*5:=by omega
    rw[this];exact c0
   ·have hj5:j=j/5*5+1:=by omega
    have:(aay Q)[j]? =(aay Q)[j/5*5+1]? :=by rw[←hj5]
    rw[this,g1] at hj;cases hj
    have:o+j=o+j/5*5+1:=by omega
    rw[this];exact c1
   ·have hj5:j=j/5*5+2:=by omega
    have:(aay Q)[j]? =(aay Q)[j/5*5+2]? :=by rw[←hj5]
    rw[this,g2] at hj;cases hj
    have:o+j=o+j/5*5+2:=by omega
    rw[this];exact c2
   ·have hj5:j=j/5*5+3:=by omega
    have:(aay Q)[j]? =(aay Q)[j/5*5+3]? :=by rw[←hj5]
    rw[this,g3] at hj;cases hj
    have:o+j=o+j/5*5+3:=by omega
    rw[this];exact c3
   ·have hj5:j=j/5*5+4:=by omega
    have:(aay Q)[j]? =(aay Q)[j/5*5+4]? :=by rw[←hj5]
    rw[this,g4] at hj;cases hj
    have:o+j=o+j/5*5+4:=by omega
    rw[this];exact c4
theorem aoc(Q:List GV):∀u∈aay Q,u.oneCell'=true:=by
 intro u hu;simp only[aay,List.mem_flatten,List.mem_map] at hu;obtain⟨l,⟨x,_,rfl⟩,hu⟩:=hu;simp at hu
 rcases hu with rfl|rfl|rfl|rfl|rfl<;>rfl
theorem adh{w:World}{ops:Array Oper}{rest:List Oper}{o:Oper}{a:Act}{Q:Exit->Act->World->Prop}(hgd:o.guard=none)(s x:Operand)
 (ho:o.op= .call { callee:= .builtin .append,args:=#[s,x],argTypes:=#[25,25]}) (aN:Nat) (v:Value) (P:List GV) (hs:a.eval s=v) (hO:OG aN v P w) (hn:aN<=w.heap.size)
 (ls:List GV) (a':Option Addr) (c':Nat) (hx:a.eval x= .slice a' ls.length c') (hS:avQ w ls a' c') (hl:P.length+ls.length<=10000000)
 (h:∀v' w',w'.ownsRow aN 44 5 v' (P++ls).length (aay (P++ls))->w.grownBy w' v.ownBlock->(v'.ownBlock=v.ownBlock\/v'.ownBlock=some w.heap.size)->wpList Tryz.prog ops Q rest (a.put o.dst v') w'):wpList Tryz.prog ops Q (o::rest) a w:=by
 obtain⟨i0,hi,hz0,hz1,hz2⟩:=info_parts apZ;obtain⟨hown,_⟩:=hO;obtain⟨hnone,hcl⟩:=hS;cases a' with
 |none=>
  obtain⟨rfl,rfl⟩:=hnone rfl;refine wpList_append_own_none hgd s x 25 ho aN 44 i0 5 Tryz.underlying25 hi v P.length (aay P) hs hown hx ?_;exact h v w (by simpa using hown) ⟨rfl,rfl,rfl,af _,fun _ _ _=>rfl⟩ (.inl rfl)
 |some ad=>
  have hnl:(aay ls).length=ls.length*5:=aeB ls;obtain⟨v',w',hr,h2,h3,_,h5⟩:=run_append_own_at (P:=Tryz.prog) w aN 25 o.type 44 i0 (.agg #[.slice none 0 0,.int .i64 0,.int .i64 0,.slice none 0 0,.slice none 0 0]) 5 88 Tryz.underlying25 hi hz0 hz1 hz2 rfl (by decide) v P.length (aay P) hown ad ls.length c' (aay ls) hnl (hcl ad rfl) (aoc ls) (by unfold maxLen;omega) (by omega) hn;refine wpList_plain hgd fun K hK=> ?_;unfold Oper.wp execOp;simp only[ho,resolve,invoke,builtin,Sem.run_bind,Sem.run_pure,Result.andThen_ok,List.map_toArray,List.map_cons,List.map_nil,hs,hx,hr];exact hK _ _ (h v' w' (by rw[aeC];simpa using h2) h3 h5)
theorem OG.append{aN:Nat}{v v':Value}{P ls:List GV}{w w':World}(h:OG aN v P w)(hn:aN<=w.heap.size)(hr:w'.ownsRow aN 44 5 v' (P++ls).length (aay (P++ls)))(hg:w.grownBy w' v.ownBlock)(hls:∀x∈ls,ans aN w x):OG aN v' (P++ls) w'/\Below aN w w':=by
 have hb:Below aN w w':=(ag aN w).grown hg hn (fun q hq=>(h.block hq).1);refine⟨⟨hr,fun x hx=> ?_⟩,hb⟩
 rcases aG.1 hx with hx|hx
 ·exact(h.2 x hx).below hb
 ·exact(hls x hx).below hb
def isC(W:World)(q:Nat):Prop:=∃cs e fz,W.heap[q]? =some (Obj.cells cs e fz)
theorem am3{w:World}{p:Addr}{v:Value}(h:w.cell? p=some v):isC w p.block:=by
 unfold World.cell? at h;split at h
 ·rename_i c e f heq;exact⟨_,_,_,heq⟩
 ·cases h
theorem isC.lt{w:World}{q:Nat}(h:isC w q):q<w.heap.size:=by
 obtain⟨_,_,_,h⟩:=h;exact(aj.1 h).1
theorem isC.keep{w w':World}{q:Nat}(h:isC w q)(hk:w'.heap[q]? =w.heap[q]?):isC w' q:=by
 obtain⟨c,e,f,h⟩:=h;exact⟨c,e,f,hk.trans h⟩
mutual
theorem aho.isC{ok:Nat->Prop}{w:World}:(t:T)->∀{b o:Nat},aho ok w t b o->aho (fun q=>ok q/\isC w q) w t b o
 | .node h ts,b,o=>fun hh=>by
   rw[aho] at hh ⊢;obtain⟨h1,h2,a,c,h3,h4,h5,h6⟩:=hh;refine⟨h1,h2,a,c,h3,h4,h5,?_⟩
   rcases h6 with h6|⟨b',o',h6,h7,h8⟩
   ·exact .inl h6
   ·match ts,h8 with
    |[],_=>exact .inl rfl
    |t::ts,h8=>
     refine .inr ⟨b',o',h6,⟨h7,?_⟩,aav.isC _ h8⟩;rw[aav] at h8;exact am3 (abO.1 h8.1).2.1
theorem aav.isC{ok:Nat->Prop}{w:World}:(ts:List T)->∀{b o:Nat},aav ok w ts b o->aav (fun q=>ok q/\isC w q) w ts b o
 |[],_,_=>fun _=>by rw[aav];trivial
 |t::ts,b,o=>fun h=>by
  rw[aav] at h ⊢;exact⟨aho.isC t h.1,aav.isC ts h.2⟩
end
theorem aaj.isC{ok:Nat->Prop}{w:World}{ts:List T}{a:Option Addr}{c:Nat}(h:aaj ok w ts a c):aaj (fun q=>ok q/\isC w q) w ts a c:=by
 obtain⟨h1,h2,h3⟩:=h;refine⟨h1,h2,?_⟩
 rcases h3 with h3|⟨b',o',h6,h7,h8⟩
 ·exact .inl h3
 ·match ts,h8 with
  |[],_=>exact .inl rfl
  |t::ts,h8=>
   refine .inr ⟨b',o',h6,⟨h7,?_⟩,aav.isC _ h8⟩;rw[aav] at h8;exact am3 (abO.1 h8.1).2.1
theorem adB.isC{ok:Nat->Prop}{w:World}{x:LV}(h:adB ok w x):adB (fun q=>ok q/\isC w q) w x:=⟨h.lw,h.rw,h.la.isC,h.ra.isC⟩
def adR(ok:Nat->Prop)(W:World)(P:List LV)(a:Option Addr)(c:Nat):Prop:=
 P.length<=c/\c<=maxLen/\(P=[]\/∃b o,a=some ⟨b,o,none⟩/\ok b/\∀(j:Nat) (x:LV),P[j]? =some x->At5 W b (o+j*5) x/\adB ok W x)
theorem adR.keep{ok ok':Nat->Prop}{w w':World}{P:List LV}{a:Option Addr}{c:Nat}(h:adR ok w P a c)(hb:∀b,ok b->w'.heap[b]? =w.heap[b]?)(hm:∀b,ok b->ok' b):adR ok' w' P a c:=by
 obtain⟨h1,h2,h3⟩:=h;refine⟨h1,h2,?_⟩
 rcases h3 with h3|⟨b,o,h4,h5,h6⟩
 ·exact .inl h3
 ·exact .inr ⟨b,o,h4,hm b h5,fun j x hx=>⟨(h6 j x hx).1.keep (fun i=>aq (a:=⟨b,i,none⟩) (hb b h5)),(h6 j x hx).2.keep hb hm⟩⟩
theorem ass{n:Nat}{w:World}{P:List LV}{a:Option Addr}{c:Nat}:adR (· <n) w P a c↔aaV n w P a c:=
 ⟨fun⟨h1,h2,h3⟩=>⟨h1,h2,h3.imp id fun⟨b,o,h4,h5,h6⟩=>⟨b,o,h4,h5,fun j x hx=>⟨(h6 j x hx).1,ac7.1 (h6 j x hx).2⟩⟩⟩,
  fun⟨h1,h2,h3⟩=>⟨h1,h2,h3.imp id fun⟨b,o,h4,h5,h6⟩=>⟨b,o,h4,h5,fun j x hx=>⟨(h6 j x hx).1,ac7.2 (h6 j x hx).2⟩⟩⟩⟩
theorem adR.cl{ok:Nat->Prop}{n:Nat}{w:World}{P:List LV}{a:Option Addr}{c:Nat}(h:adR ok w P a c)(hm:∀b,ok b->b<n):aaV n w P a c:=ass.1 (h.keep (fun _ _=>rfl) hm)
theorem adR.nil(ok:Nat->Prop)(w:World)(a:Option Addr){c:Nat}(hc:c<=maxLen):adR ok w [] a c:=⟨by simp,hc,.inl rfl⟩
theorem adR.isC{ok:Nat->Prop}{w:World}{P:List LV}{a:Option Addr}{c:Nat}(h:adR ok w P a c):adR (fun q=>ok q/\isC w q) w P a c:=by
 obtain⟨h1,h2,h3⟩:=h;refine⟨h1,h2,?_⟩
 rcases h3 with h3|⟨b',o',h6,h7,h8⟩
 ·exact .inl h3
 ·match P,h8 with
  |[],_=>exact .inl rfl
  |x::P,h8=>
   refine .inr ⟨b',o',h6,⟨h7,?_⟩,fun j y hj=>⟨(h8 j y hj).1,(h8 j y hj).2.isC⟩⟩;have:=(h8 0 x rfl).1.1;exact am3 this
theorem abH.isC{ok:Nat->Prop}{w:World}{s:Sb}{a:Option Addr}{c:Nat}(h:abH ok w s a c):abH (fun q=>ok q/\isC w q) w s a c:=by
 obtain⟨h1,h2,h3⟩:=h;refine⟨h1,h2,?_⟩
 rcases h3 with h3|⟨b',o',h6,h7,h8⟩
 ·exact .inl h3
 ·match s,h8 with
  |[],_=>exact .inl rfl
  |x::s,h8=>
   refine .inr ⟨b',o',h6,⟨h7,?_⟩,fun j y hj=>⟨(h8 j y hj).1,(h8 j y hj).2.1,aho.isC _ (h8 j y hj).2.2⟩⟩;exact am3 (h8 0 x rfl).2.1
structure alf (ok:Nat->Prop) (w:World) (x:GV):Prop where
 iw:(Lit.int .i64 x.i).wf=true
 kw:(Lit.int .i64 x.k).wf=true
 cl:adR ok w x.P x.pc x.cc
 pl:x.zs=[]/\x.pp=none/\x.cp=0
 bs:abH ok w x.s x.pb x.cb
theorem alf.keep{ok ok':Nat->Prop}{w w':World}{x:GV}(h:alf ok w x)(hb:∀b,ok b->w'.heap[b]? =w.heap[b]?)(hm:∀b,ok b->ok' b):alf ok' w' x:=⟨h.iw,h.kw,h.cl.keep hb hm,h.pl,h.bs.keep hb hm⟩
theorem alf.gv{ok:Nat->Prop}{n:Nat}{w:World}{x:GV}(h:alf ok w x)(hm:∀b,ok b->b<n):ans n w x:=by
 refine⟨h.iw,h.kw,h.cl.cl hm,?_,h.bs.bs hm⟩;obtain⟨e1,e2,e3⟩:=h.pl;rw[e1,e2,e3];exact⟨by simp,by simp[maxLen],.inl rfl⟩
def PF(b:Nat)(v:Value)(q:Nat):Prop:=q=b\/v.ownBlock=some q
structure FrP (b:Nat) (v v':Value) (w w':World):Prop where
 os:w'.os=w.os
 tape:w'.tape=w.tape
 output:w'.output=w.output
 size:w.heap.size<=w'.heap.size
 block:∀i,i<w.heap.size->¬PF b v i->w'.heap[i]? =w.heap[i]?
 own:∀i,i<w.heap.size->v'.ownBlock=some i->v.ownBlock=some i
theorem FrP.refl(b:Nat)(v:Value)(w:World):FrP b v v w w:=⟨rfl,rfl,rfl,af _,fun _ _ _=>rfl,fun _ _ h=>h⟩
theorem FrP.of{b:Nat}{v:Value}{w w':World}(h:Below w.heap.size w w'):FrP b v v w w':=⟨h.os,h.tape,h.output,h.size,fun i hi _=>h.block i hi,fun _ _ h=>h⟩
theorem FrP.trans{b:Nat}{v v' v'':Value}{w w' w'':World}(h:FrP b v v' w w')(k:FrP b v' v'' w' w''):FrP b v v'' w w'':=
 ⟨k.os.trans h.os,k.tape.trans h.tape,k.output.trans h.output,aE h.size k.size,
  fun i hi hn=>(k.block i (aF hi h.size) (fun e=>hn (e.imp id (h.own i hi)))).trans (h.block i hi hn),
  fun i hi e=>h.own i hi (k.own i (aF hi h.size) e)⟩
theorem FrP.below{b:Nat}{v v':Value}{w w':World}(h:FrP b v v' w w'){B:Nat}(hB:B<=w.heap.size)(h0:B<=b)(ho:∀i,v.ownBlock=some i->B<=i):Below B w w':=
 ⟨h.os,h.tape,h.output,h.size,fun i hi=>h.block i (by omega) (fun e=>e.elim (fun e=>by omega) (fun e=>by have:=ho i e;omega))⟩
structure PrS (b:Nat) (gv cv hv v:Value) (P:List GV) (m:Nat) (W:World):Prop where
 box:W.heap[b]? =some (.cells #[v,.int .i64 (m:Int),gv,cv,hv] 57 (0,0))
 own:W.ownsRow (b+1) 44 5 v P.length (aay P)
 els:∀x∈P,alf (fun q=>¬PF b v q/\isC W q) W x
theorem PrS.lt{b:Nat}{gv cv hv v:Value}{P:List GV}{m:Nat}{W:World}(h:PrS b gv cv hv v P m W):b<W.heap.size:=(aj.1 h.box).1
theorem PrS.ob{b:Nat}{gv cv hv v:Value}{P:List GV}{m:Nat}{W:World}(h:PrS b gv cv hv v P m W){g:Nat}(hg:v.ownBlock=some g):b<g/\isC W g:=by
 obtain⟨a,b,cur,e⟩:=Mm.rowBlock h.own hg;exact⟨by omega,_,_,_,e⟩
theorem PrS.kept{b:Nat}{gv cv hv v:Value}{P:List GV}{m:Nat}{W W':World}(h:PrS b gv cv hv v P m W)(hk:∀q,isC W q->W'.heap[q]? =W.heap[q]?):PrS b gv cv hv v P m W':=
 ⟨(hk b ⟨_,_,_,h.box⟩).trans h.box,Mm.ownsRow_kept h.own fun g hg=>hk g (h.ob hg).2,fun x hx=>(h.els x hx).keep (fun q hq=>hk q hq.2) (fun q hq=>⟨hq.1,hq.2.keep (hk q hq.2)⟩)⟩
theorem PrS.later{b:Nat}{gv cv hv v:Value}{P:List GV}{m:Nat}{W W':World}(h:PrS b gv cv hv v P m W)(hb:Below W.heap.size W W'):PrS b gv cv hv v P m W':=h.kept fun q hq=>hb.block q hq.lt
theorem PrS.cells{b:Nat}{gv cv hv v:Value}{P:List GV}{m:Nat}{W:World}(h:PrS b gv cv hv v P m W):
 W.cell? ⟨b,0,none⟩=some v/\W.cell? ⟨b,1,none⟩=some (.int .i64 (m:Int))/\W.cell? ⟨b,2,none⟩=some gv/\W.cell? ⟨b,3,none⟩=some cv/\W.cell? ⟨b,4,none⟩=some hv/\W.frozen? ⟨b,0,none⟩=false/\W.frozen? ⟨b,1,none⟩=false:=by
 refine⟨?_,?_,?_,?_,?_,?_,?_⟩<;>simp[World.cell?,World.frozen?,h.box]
theorem PrS.lose{b:Nat}{gv cv hv v:Value}{P:List GV}{m:Nat}{W:World}(h:PrS b gv cv hv v P m W):PrS b gv cv hv v P (m+1) (W.setCell ⟨b,1,none⟩ (.int .i64 ((m+1:Nat):Int)))/\FrP b v v W (W.setCell ⟨b,1,none⟩ (.int .i64 ((m+1:Nat):Int))):=by
 have hne:∀q,q≠b->(W.setCell ⟨b,1,none⟩ (.int .i64 ((m+1:Nat):Int))).heap[q]? =W.heap[q]? :=fun q hq=>an _ _ _ _ hq;have hob:∀q,v.ownBlock=some q->q≠b:=fun q hq e=>by have:=(h.ob hq).1;omega
 have hnf:∀q,¬PF b v q->q≠b:=fun q hq e=>hq (.inl e);refine⟨⟨by rw[heap_setCell_same h.box];rfl,Mm.ownsRow_kept h.own fun g hg=>hne g (hob g hg),fun x hx=>(h.els x hx).keep (fun q hq=>hne q (hnf q hq.1)) (fun q hq=>⟨hq.1,hq.2.keep (hne q (hnf q hq.1))⟩)⟩,rfl,rfl,rfl,by simp,fun i _ hi=>hne i (hnf i hi),fun _ _ e=>e⟩
theorem PrS.push{b:Nat}{gv cv hv v:Value}{P:List GV}{m:Nat}{W W5:World}{ob:Obj}(h:PrS b gv cv hv v P m W){x:GV}(hx:alf (fun q=>¬PF b v q/\isC W q) W x){g cap:Nat}
 (hgrow:(W.drew.alloc ob).grownBy W5 v.ownBlock) (hown:W5.ownsRow (b+1) 44 5 (.slice (some ⟨g,0,none⟩) (P.length+1) cap) (P.length+1) (aay P++x.cells)) (hat:v.ownBlock=some g\/g=W.heap.size+1):
 PrS b gv cv hv (.slice (some ⟨g,0,none⟩) (P.length+1) cap) (P++[x]) m (W5.setCell ⟨b,0,none⟩ (.slice (some ⟨g,0,none⟩) (P.length+1) cap))/\
  FrP b v (.slice (some ⟨g,0,none⟩) (P.length+1) cap) W (W5.setCell ⟨b,0,none⟩ (.slice (some ⟨g,0,none⟩) (P.length+1) cap)):=by
 obtain⟨V,hV⟩:∃V,(Value.slice (some ⟨g,0,none⟩) (P.length+1) cap)=V:=⟨_,rfl⟩;have hVo:V.ownBlock=some g:=by rw[←hV];rfl
 have hs:W.heap.size+1<=W5.heap.size:=by have:=hgrow.size;simpa using this
 have hob:∀q,v.ownBlock=some q->q≠b:=fun q hq e=>by have:=(h.ob hq).1;omega
 have h5:∀q,q<W.heap.size->v.ownBlock≠some q->W5.heap[q]? =W.heap[q]? :=fun q hq hn=>(hgrow.block q (by simp;omega) (fun e=>hn e.symm)).trans (az _ _ _ hq);have hne:∀q,q≠b->(W5.setCell ⟨b,0,none⟩ V).heap[q]? =W5.heap[q]? :=fun q hq=>an _ _ _ _ hq;have hbb:v.ownBlock≠some b:=fun e=>hob b e rfl
 have hgb:g≠b:=by
  rcases hat with e|e
  ·exact hob g e
  ·have:=h.lt;omega
 have hkeep:∀q,¬PF b v q/\isC W q->(W5.setCell ⟨b,0,none⟩ V).heap[q]? =W.heap[q]? :=fun q hq=>(hne q (fun e=>hq.1 (.inl e))).trans (h5 q hq.2.lt (fun e=>hq.1 (.inr e)))
 have hok:∀q,¬PF b v q/\isC W q->¬PF b V q/\isC (W5.setCell ⟨b,0,none⟩ V) q:=fun q hq=>⟨fun e=>by
  rcases e with e|e
  ·exact hq.1 (.inl e)
  ·rw[hVo] at e;cases e
   rcases hat with e|e
   ·exact hq.1 (.inr e)
   ·have:=hq.2.lt;omega,hq.2.keep (hkeep q hq)⟩
 rw[hV] at hown ⊢;have hbox:W5.heap[b]? =some (.cells #[v,.int .i64 (m:Int),gv,cv,hv] 57 (0,0)):=(h5 b h.lt hbb).trans h.box;refine⟨⟨by rw[heap_setCell_same hbox];rfl,?_,fun y hy=> ?_⟩,?_⟩
 ·rw[aeC,aK];have e:aay [x]=x.cells:=by simp[aay]
  rw[e];exact Mm.ownsRow_kept hown fun q hq=>hne q (by rw[hVo] at hq;cases hq;exact hgb)
 ·rcases aG.1 hy with hy|hy
  ·exact(h.els y hy).keep hkeep hok
  ·obtain rfl:=List.mem_singleton.1 hy;exact hx.keep hkeep hok
 ·refine⟨(show(W5.setCell ⟨b,0,none⟩ V).os=W5.os from rfl).trans hgrow.os,(show(W5.setCell ⟨b,0,none⟩ V).tape=W5.tape from rfl).trans hgrow.tape,(show(W5.setCell ⟨b,0,none⟩ V).output=W5.output from rfl).trans hgrow.output,by simp;omega,fun i hi hn=>(hne i (fun e=>hn (.inl e))).trans (h5 i hi (fun e=>hn (.inr e))),fun i hi e=> ?_⟩;rw[hVo] at e;cases e
  rcases hat with e|e
  ·exact e
  ·omega
theorem PrS.gs{b:Nat}{gv cv hv v:Value}{P:List GV}{m:Nat}{W:World}(h:PrS b gv cv hv v P m W):∃a c,v= .slice a P.length c/\(a=none->c=0)/\ahl W.heap.size W P a c:=by
 have hcells:=fun g hg=>h.own.cells (g:=g) hg
 rcases h.own.2 with⟨rfl,h0⟩|⟨g,cap,cur,rfl,hb,hh,hn',hc,hs,_⟩
 ·have:P=[]:=aC h0;subst this;exact⟨none,0,rfl,fun _=>rfl,ahl.nil _ _ _ (by simp[maxLen])⟩
 ·refine⟨_,cap,rfl,(fun e=>by cases e),hn',hc,.inr ⟨g,0,rfl,(h.ob rfl).2.lt,fun j x hx=>⟨?_,(h.els x (ak hx)).gv fun q hq=>hq.2.lt⟩⟩⟩
  have hc5:∀i u,(aay P)[i]? =some u->W.cell? ⟨g,i,none⟩=some u:=fun i u hu=>by
   have:=hcells g rfl i u hu;rw[aaB] at this;simpa using this
  obtain⟨g0,g1,g2,g3,g4⟩:=ae7 hx;simp only[Nat.zero_add];exact⟨hc5 _ _ g0,hc5 _ _ g1,hc5 _ _ g2,hc5 _ _ g3,hc5 _ _ g4⟩
def ag2(b:Nat)(gv cv hv v:Value)(D:List Gp)(m:Nat)(w:World)(e:Ending)(w':World):Prop:=
 e= .returned (.tuple #[])/\∃(v':Value) (G:List GV),gps G=D/\PrS b gv cv hv v' G m w'/\FrP b v v' w w'
theorem afT(b:Nat)(gv cv hv v:Value)(P:List GV)(m:Nat)(hm:m<=1000000)(w:World)(h:PrS b gv cv hv v P m w):
 Calls Tryz.prog 59 #[.pointer (some ⟨b,0,none⟩)] w (ag2 b gv cv hv v (gps P) (m+1) w):=by
 obtain⟨_,c1,_,_,_,_,f1⟩:=h.cells;have HL:=ae h.lose;have hmi:(0:Int)<=(m:Int):=by omega
 clear h;go_enter Tryz.func59,Tryz.ntmps59;go_wp2
 go_end0
 exact⟨rfl,v,P,rfl,HL.out.1,HL.out.2⟩
theorem ap0(n:Nat)(hn:n<=100000)(w:World):Calls Tryz.prog 153 #[.slice none 0 0,.int .i64 n] w fun e w'=>
 ∃v,e= .returned v/\w'.ownsRow w.heap.size 62 5 v 0 []/\Below w.heap.size w w':=by
 by_cases h0:n=0
 ·subst h0;go_enter Tryz.func153,Tryz.ntmps153;go_wp2;go_ret;exact⟨_,rfl,World.ownsRow_nil _ _ _ _,ag _ _⟩
 ·obtain⟨i0,hi,hz0,hz1,hz2⟩:=info_parts agN
  have hrz:∀ty,(Builtin.append_ #[23,3] ty #[.slice none 0 0,.int .i64 (n:Int)]).run Tryz.prog w=
   .ok (.slice (some ⟨w.heap.size,0,none⟩) n (grownCap w n 0 62)) (w.drew.alloc (.cells (#[]++Builtin.zeroCells (Value.agg #[.bool false,.int .i64 0,.slice none 0 0,.int .i64 0,.slice none 0 0]).cells n++Builtin.zeroCells (Value.agg #[.bool false,.int .i64 0,.slice none 0 0,.int .i64 0,.slice none 0 0]).cells (grownCap w n 0 62-n)) 62)):=fun ty=>by
   have h:=Lib.run_append_grow_zeros w 23 3 ty 62 i0 _ .i64 .i64 Tryz.underlying23 Tryz.underlying3 hi hz0 none 0 0 [] (run_firstCells_none w.drew i0.size 0 0 0) n (by omega) (by rw[hz1];omega) (by omega) (by omega) (by rw[hz2];omega)
    (growslice_fits (by omega) (by rw[hz2];omega))
   simpa using h
  have hGn:n<=grownCap w n 0 62:=grownCap_ge w _ _ _;have hGm:=grownCap_le_maxLen w n 0 62 (by unfold maxLen;omega);obtain⟨G,hG⟩:∃G,G=grownCap w n 0 62:=⟨_,rfl⟩;rw[←hG] at hrz hGn hGm;have HM:=ae hGm;unfold maxLen at hGm;clear hG hi hz0 hz1 hz2;obtain⟨w',hw'⟩:∃w',w'=w.drew.alloc (.cells (#[]++Builtin.zeroCells (Value.agg #[.bool false,.int .i64 0,.slice none 0 0,.int .i64 0,.slice none 0 0]).cells n++Builtin.zeroCells (Value.agg #[.bool false,.int .i64 0,.slice none 0 0,.int .i64 0,.slice none 0 0]).cells (G-n)) 62):=⟨_,rfl⟩;rw[←hw'] at hrz;have HW:=ae hw';clear hw';have h4:((n:Int)>0):=by omega
  have h5:¬((n:Int)<0):=by omega
  go_enter Tryz.func153,Tryz.ntmps153
  go_wp2_with (at_builtin;refine Lib.wpList_append_run _ rfl _ _ _ _ rfl _ _ rfl rfl _ _ (hrz _) ?_)
  all_goals go_ret
  have hW:=HW.out;subst hW;refine⟨_,rfl,⟨by simp,.inr ⟨_,_,_,rfl,af _,heap_alloc_new w.drew _,by omega,HM.out,?_,by simp⟩⟩,?_⟩
  ·simp only[Array.size_append,size_zeroCells];simp[Value.cells];omega
  ·exact(show Below w.heap.size w w.drew from⟨rfl,rfl,rfl,af _,fun _ _=>rfl⟩).alloc (af _) _
def awW(L:List (List LV))(aM:Nat)(w:World)(v i:Value)(wr:World):Prop:=
 ∃k:Nat,k<=L.length/\i= .int .i64 k/\OL (· <aM) w.heap.size v (L.take k).flatten wr/\Below w.heap.size w wr
theorem ais{L:List (List LV)}{k:Nat}{zs:List LV}(h:L[k]? =some zs):(L.take (k+1)).flatten=(L.take k).flatten++zs:=by
 obtain⟨hk,e⟩:=ah.1 h;rw[aI hk,e];simp
theorem ajw(L:List (List LV))(k:Nat):(L.take k).flatten.length<=L.flatten.length:=by
 have:(L.take k++L.drop k).flatten=L.flatten:=by rw[List.take_append_drop]
 rw[←this,List.flatten_append,aK];omega
theorem ap1(L:List (List LV))(hll:L.length<=100)(hfl:L.flatten.length<=100000)(aM B O c:Nat)(w:World)(hn:aM<=w.heap.size)
 (hL:∀(j:Nat) (zs:List LV),L[j]? =some zs->∃ad c',w.cell? ⟨B,O+j,none⟩=some (.slice (some ad) zs.length c')/\aaV aM w zs (some ad) c'):
 Calls Tryz.prog 107 #[.slice (some ⟨B,O,none⟩) L.length c] w fun e w'=>
  ∃v,e= .returned v/\OL (· <aM) w.heap.size v L.flatten w'/\Below w.heap.size w w':=by
 have HL:=ae hL;clear hL;go_enter Tryz.func107,Tryz.ntmps107;go_wp2
 go_loop [3,11] (fun t i=>∃k:Nat,k<=L.length/\i= .int .i64 k/\t= .int .i64 (((L.take k).flatten.length:Nat):Int)) (fun _ i=>L.length-(intOf i).toNat)
 case atStart=>exact⟨0,Nat.zero_le _,rfl,rfl⟩
 case round=>
  obtain⟨k,hk,rfl,rfl⟩:=hrel;have hle:=ajw L k;by_cases hlt:k<L.length
  ·have hzs:=ai hlt;generalize L[k]=zs at hzs;obtain⟨ad,c',hc,_⟩:=HL.out k zs hzs;have hft:=ais hzs;have hle2:=ajw L (k+1);have HFT:=ae (congrArg List.length hft);rw[hft,aK] at hle2;generalize hq:(L.take k).flatten.length=q at*;have HQ:=ae hq;have h9:¬((q:Int)+(zs.length:Int)<0):=by omega
   clear hq hft hzs;go_wp2
   go_round
   case rel=>
    refine⟨k+1,by omega,by go_num,?_⟩;have h1:=HFT.out;rw[aK,HQ.out] at h1;rw[h1];exact congrArg (fun x:Int=>Value.int .i64 x) (by omega)
   case measure=>simp[intOf];omega
  ·obtain rfl:k=L.length:=by omega
   rw[List.take_length] at hle ⊢;generalize hq:L.flatten.length=q at*;have HQ:=ae hq;clear hq hlt hk
   go_wp2_with fail
   refine(ap0 q (by omega) w).mono ?_;rintro e w1 ⟨v,rfl,hown1,hb1⟩;have HO1:=ae hown1;have HB1:=ae hb1;clear hown1 hb1;go_wp2
   go_loopw [6,27] (fun v i wr=>awW L aM w v i wr) (fun _ i _=>L.length-(intOf i).toNat)
   case atStart=>exact⟨0,Nat.zero_le _,rfl,⟨by simpa[aaf] using HO1.out,by simp⟩,HB1.out⟩
   case round=>
    clear HO1 HB1;obtain⟨k,hk,rfl,hO,hB⟩:=hrel;have HO:=ae hO;have HB:=ae hB;clear hO hB;by_cases hlt:k<L.length
    ·have hzs:=ai hlt;generalize L[k]=zs at hzs;obtain⟨ad,c',hc,hbs⟩:=HL.out k zs hzs;have hbl:B<w.heap.size:=World.block_lt_of_cell? w ⟨B,O+k,none⟩ hc;have hc2:=(HB.out.cell (p:=⟨B,O+k,none⟩) hbl).trans hc;have hft:=ais hzs;have hle2:=ajw L (k+1);rw[hft,aK] at hle2;have HFT:=ae hft;have HBS:=ae (hbs.below (HB.out.mono hn));have hql:=HQ.out;clear hft hzs hbs hc
     go_wp2_with (at_builtin;refine aaG ?_)
     refine ae ?_;refine ab5 rfl _ _ rfl (· <aM) w.heap.size _ _ rfl HO.out HB.out.size zs (some ad) c' rfl (apv.of_cl HBS.out (fun e=>by cases e)) (by omega) ?_;intro v' w2 hown2 hgr2 hat2;have HO2:=ae hown2;have HG2:=ae hgr2;clear hown2 hgr2 hat2;go_wp2
     go_roundw
     case rel=>
      have hlow:∀b,b<aM->w2.heap[b]? =wr.heap[b]? :=fun b hb=>HG2.out.block b (by have:=HB.out.size;omega) (fun e=>by have:=(HO.out.block e.symm).1;omega);refine⟨k+1,by omega,by go_num,?_,HB.out.grown HG2.out HB.out.size (fun q hq=>(HO.out.block hq).1)⟩;rw[HFT.out];refine⟨HO2.out,fun x hx=> ?_⟩
      rcases aG.1 hx with hx|hx
      ·exact(HO.out.2 x hx).keep hlow (fun _ h=>h)
      ·have hv:aa1 aM wr x:=by
        rcases HBS.out.2.2 with h|⟨b,o,_,_,h⟩
        ·rw[h] at hx;cases hx
        ·obtain⟨j,hj⟩:=au hx;exact(h j x hj).2
       exact(ac7.2 hv).keep hlow (fun _ h=>h)
     case measure=>simp[intOf];omega
    ·obtain rfl:k=L.length:=by omega
     have hO:=HO.out;rw[List.take_length] at hO;have HO3:=ae hO;clear hO HO;go_wp2;go_ret;exact⟨_,rfl,HO3.out,HB.out⟩
theorem aaV.part{aM:Nat}{w:World}{P:List LV}{b o c:Nat}(h:aaV aM w P (some ⟨b,o,none⟩) c)(i:Nat)(hi:i<P.length):aaV aM w (P.take i) (some ⟨b,o,none⟩) c/\
 ∃A:Addr,(if c=i+1 then(some (⟨b,o,none⟩:Addr)) else some ⟨b,o+(i+1)*5,none⟩)=some A/\aaV aM w (P.drop (i+1)) (some A) (c-(i+1)):=by
 obtain⟨h1,h2,h3⟩:=h
 rcases h3 with rfl|⟨b',o',e,hb,h3⟩
 ·simp at hi
 ·cases e;refine⟨⟨by rw[List.length_take];omega,h2,.inr ⟨b,o,rfl,hb,fun j x hx=> ?_⟩⟩,?_⟩
  ·rw[List.getElem?_take] at hx;split at hx
   ·exact h3 j x hx
   ·cases hx
  ·by_cases e:c=i+1
   ·refine⟨⟨b,o,none⟩,by simp[e],by rw[List.length_drop];omega,by omega,.inl ?_⟩;exact List.drop_eq_nil_of_le (by omega)
   ·refine⟨⟨b,o+(i+1)*5,none⟩,by simp[e],by rw[List.length_drop];omega,by omega,.inr ⟨b,o+(i+1)*5,rfl,hb,fun j x hx=> ?_⟩⟩;rw[List.getElem?_drop] at hx;have:=h3 _ _ hx;rw[show o+(i+1)*5+j*5=o+(i+1+j)*5 from by omega];exact this
theorem ac9(P:List LV)(i:Nat)(hi:i<P.length)(hl:P.length<=1000)(aM:Nat)(a:Option Addr)(c:Nat)(w:World)(hn:aM<=w.heap.size)(hP:aaV aM w P a c):
 Calls Tryz.prog 61 #[.slice a P.length c,.int .i64 (i:Int)] w fun e w'=>
  ∃v,e= .returned v/\OL (· <aM) w.heap.size v (P.eraseIdx i) w'/\Below w.heap.size w w':=by
 obtain⟨b,o,x,rfl,hb,_⟩:=hP.elem hi;obtain⟨hc1,A,hA,hc2⟩:=hP.part i hi;have hlc:P.length<=c/\c<=maxLen:=⟨hP.1,hP.2.1⟩;unfold maxLen at hlc;obtain⟨hlc1,hlc2⟩:=hlc
 have CC:=ae (show ∀W:World,Below w.heap.size w W->W.heap.size=w.heap.size->Calls Tryz.prog 107 #[.slice (some ⟨w.heap.size,0,none⟩) 2 2] (W.alloc (.cells #[.slice (some ⟨b,o,none⟩) i c,.slice (some A) (P.length-(i+1)) (c-(i+1))] 23)) (fun e w'=>
  ∃v,e= .returned v/\OL (· <aM) w.heap.size v (P.eraseIdx i) w'/\Below w.heap.size w w') from fun W hW hs=>by
  have hbW:Below w.heap.size w (W.alloc (.cells #[.slice (some ⟨b,o,none⟩) i c,.slice (some A) (P.length-(i+1)) (c-(i+1))] 23)):=hW.alloc (by omega) _
  have hcs:∀j,(W.alloc (.cells #[.slice (some ⟨b,o,none⟩) i c,.slice (some A) (P.length-(i+1)) (c-(i+1))] 23)).cell? ⟨w.heap.size,j,none⟩=(#[.slice (some ⟨b,o,none⟩) i c,.slice (some A) (P.length-(i+1)) (c-(i+1))]:Array Value)[j]? :=fun j=>by
   rw[←hs];simp[go_sem]
  have h:=ap1 [P.take i,P.drop (i+1)] (by simp) (by simp;omega) aM w.heap.size 0 2 (W.alloc (.cells #[.slice (some ⟨b,o,none⟩) i c,.slice (some A) (P.length-(i+1)) (c-(i+1))] 23)) (by simp;omega) (fun j zs hz=>by
   match j,hz with
   |0,hz=>simp at hz;subst hz;exact⟨_,c,by rw[hcs];simp;omega,hc1.below (hbW.mono hn)⟩
   |1,hz=>simp at hz;subst hz;exact⟨A,c-(i+1),by rw[hcs];simp,hc2.below (hbW.mono hn)⟩)
  refine h.mono ?_;rintro e w' ⟨v,he,hO,hb'⟩;have hf:[P.take i,P.drop (i+1)].flatten=P.eraseIdx i:=by rw[List.eraseIdx_eq_take_drop_succ];simp
  rw[hf] at hO
  have hO':OL (· <aM) w.heap.size v (P.eraseIdx i) w':=by
   obtain⟨⟨q1,q2⟩,q3⟩:=hO;refine⟨⟨q1,q2.imp id ?_⟩,q3⟩;rintro⟨g,cap,cur,e1,e2,e3⟩;exact⟨g,cap,cur,e1,by simp at e2;omega,e3⟩
  exact⟨v,he,hO',hbW.trans (hb'.mono (by simp;omega))⟩)
 clear hc1 hc2 hP;have hi1:(i:Int)+1<=(P.length:Int):=by omega
 have hi2:(i:Int)+1<=(c:Int):=by omega
 have hi3:(P.length:Int)<=(c:Int):=by omega
 have hi4:(0:Int)<=(i:Int)+1:=by omega
 have hi5:(i:Int)<=(c:Int):=by omega
 have hi6:i<=c:=by omega
 have hi7:i+1<=P.length:=by omega
 have hi8:i+1<=c:=by omega
 go_enter Tryz.func61,Tryz.ntmps61;have hdr:Below w.heap.size w w.drew:=(ag _ _).drew
 have hwr:IntKind.i64.wrap ((i:Int)+1)=((i+1:Nat):Int):=by
  rw[IntWalk.i64_in ((i:Int)+1) ⟨by omega,by omega⟩];omega
 go_wp2_with fail
 go_region_law (first|(go_simp;go_at_call 107;refine(CC.out w.drew hdr rfl).mono ?_;rintro e w2 ⟨v,rfl,hO,hb⟩))
 all_goals
  have HO:=ae (And.intro hO hb);clear hO hb;go_wp2;go_ret;exact⟨_,rfl,HO.out.1,HO.out.2⟩
def avR(f:Nat)(lb:Array Value)(p:Lt3->Bool)(P:List LV)(aM:Nat)(w:World):Prop:=
 ∀(W:World) (x:LV),x∈P->Below w.heap.size w W->aa1 aM W x->Calls Tryz.prog f (#[x.v]++lb) W fun e w'=>e= .returned (.bool (p x.t3))/\Below W.heap.size W w'
def avS(p:Lt3->Bool)(P:List LV)(j:Int):Prop:=
 (j= -1/\∀y∈P,p y.t3=false)\/∃(k:Nat) (x:LV),j=k/\P[k]? =some x/\p x.t3=true/\∀(l:Nat) (y:LV),l<k->P[l]? =some y->p y.t3=false
theorem avS.any{p:Lt3->Bool}{P:List LV}{j:Int}(h:avS p P j):decide (0<=j)=(t3s P).any p:=by
 rcases h with⟨rfl,h⟩|⟨k,x,rfl,h1,h2,_⟩
 ·symm
  rw[show decide ((0:Int)<= -1)=false from rfl,List.any_eq_false];intro y hy;obtain⟨z,hz,rfl⟩:=List.mem_map.1 hy;rw[h z hz];decide
 ·symm
  rw[show decide ((0:Int)<=(k:Int))=true from by simp,List.any_eq_true];exact⟨x.t3,List.mem_map.2 ⟨x,ak h1,rfl⟩,h2⟩
def axn(p:Lt3->Bool)(P:List LV)(w:World)(i:Value)(wr:World):Prop:=∃k:Nat,k<=P.length/\i= .int .i64 k/\(∀(l:Nat) (y:LV),l<k->P[l]? =some y->p y.t3=false)/\Below w.heap.size w wr
theorem aod(p:Lt3->Bool)(f:Nat)(lb:Array Value)(eg:∀args w,(callFunc f args).run Tryz.prog w= .ok (.enter f args) w)(P:List LV)(aM:Nat)(a:Option Addr)(c:Nat)(w:World)(hn:aM<=w.heap.size)(hA:aaV aM w P a c)
 (hp:avR f lb p P aM w):
 Calls Tryz.prog 138 #[.slice a P.length c,.func (.func f) #[] lb] w fun e w'=>∃j:Int,e= .returned (.int .i64 j)/\avS p P j/\Below w.heap.size w w':=by
 have hlc:P.length<=c/\c<=maxLen:=⟨hA.1,hA.2.1⟩;unfold maxLen at hlc;obtain⟨hl1,hl2⟩:=hlc;have HA:=ae hA;have HP:=ae hp;clear hA hp;go_enter Tryz.func138,Tryz.ntmps138;go_wp2
 go_loopw [8] (fun i wr=>axn p P w i wr) (fun i _=>P.length-(intOf i).toNat)
 case atStart=>exact⟨0,Nat.zero_le _,rfl,fun l y hl=>by omega,ag _ _⟩
 case round=>
  obtain⟨k,hk,rfl,hbd,hB⟩:=hrel;have HBD:=ae hbd;have HB:=ae hB;have hbz:=hB.size;clear hbd hB;by_cases hlt:k<P.length
  ·obtain⟨b,o,x,rfl,hbn,hx,⟨a0,a1,a2,a3,a4⟩,hxl⟩:=(HA.out.below (HB.out.mono hn)).elem (i:=k) hlt;have hk0:(0:Int)<=(k:Int):=aw _;have hk1:(k:Int)<(P.length:Int):=by omega
   have hbw:b<wr.heap.size:=by omega
   have hcall:=HP.out wr x (ak hx) HB.out hxl;have HX:=ae hx;clear hx hxl;cases hd:p x.t3 with
   |false=>
    rw[hd] at hcall
    have H0:=ae (show ∀(l:Nat) (y:LV),l<k+1->P[l]? =some y->p y.t3=false from fun l y hl hy=>by
     rcases Nat.lt_or_ge l k with h|h
     ·exact HBD.out l y h hy
     ·obtain rfl:l=k:=by omega
      rw[HX.out] at hy;cases hy;exact hd)
    clear hd
    go_wp2_with (go_at_fn f;refine hcall.mono ?_;rintro e w2 ⟨rfl,hb2⟩)
    have HB2:=ae (HB.out.trans (hb2.mono hbz));clear hb2
    go_roundw
    case rel=>exact⟨k+1,by omega,by go_num,H0.out,HB2.out⟩
    case measure=>simp[intOf];omega
   |true=>
    rw[hd] at hcall;have H0:=ae (show avS p P (k:Int) from .inr ⟨k,x,rfl,HX.out,hd,HBD.out⟩);clear hd
    go_wp2_with (go_at_fn f;refine hcall.mono ?_;rintro e w2 ⟨rfl,hb2⟩)
    have HB2:=ae (HB.out.trans (hb2.mono hbz));clear hb2;go_ret;exact⟨(k:Int),rfl,H0.out,HB2.out⟩
  ·obtain rfl:k=P.length:=by omega
   have H0:=ae (show avS p P (-1) from .inl ⟨rfl,fun y hy=>by
    obtain⟨l,hl,e⟩:=List.getElem_of_mem hy;exact HBD.out l y hl (by rw[ai hl,e])⟩)
   go_wp2;go_ret;exact⟨-1,rfl,H0.out,HB.out⟩
theorem ajx(p:Lt3->Bool)(f:Nat)(lb:Array Value)(eg:∀args w,(callFunc f args).run Tryz.prog w= .ok (.enter f args) w)(P:List LV)(aM:Nat)(a:Option Addr)(c:Nat)(w:World)(hn:aM<=w.heap.size)(hA:aaV aM w P a c)
 (hp:avR f lb p P aM w):
 Calls Tryz.prog 96 #[.slice a P.length c,.func (.func f) #[] lb] w fun e w'=>e= .returned (.bool ((t3s P).any p))/\Below w.heap.size w w':=by
 have CI:=ae (aod p f lb eg P aM a c w hn hA hp);clear hA hp eg;go_enter Tryz.func96,Tryz.ntmps96
 go_wp2_with fail
 refine CI.out.mono ?_;rintro e w2 ⟨j,rfl,hj,hb⟩;have HJ:=ae hj.any;have HB:=ae hb;clear hj hb;go_wp2;go_ret;exact⟨by rw[←HJ.out];rfl,HB.out⟩
def avT(ok:Nat->Prop)(P:List LV)(w:World)(e:Ending)(w':World):Prop:=∃v,e= .returned v/\OL ok w.heap.size v P w'/\Below w.heap.size w w'
theorem aoe(P:List LV)(hl:P.length<=1000000)(aM:Nat)(a:Option Addr)(c:Nat)(w:World)(hn:aM<=w.heap.size)(hA:aaV aM w P a c):
 Calls Tryz.prog 87 #[.slice a P.length c] w (avT (· <aM) P w):=by
 have q22:∀(w:World) (a:Option Addr) (n c n' c':Nat),(binOp .eql 23 (.slice a n c) (.slice none n' c')).run Tryz.prog w= .ok (.bool a.isNone) w:=fun w a n c n' c'=>Lib.run_eql_slice_nil w _ _ a n c n' c' Tryz.underlying23
 have hel:∀x∈P,adB (· <aM) w x:=fun x hx=>by
  obtain⟨l,hl',e⟩:=List.getElem_of_mem hx;obtain⟨_,_,y,_,_,hy,_,hyl⟩:=hA.elem hl';rw[ai hl',e] at hy;cases hy;exact ac7.2 hyl
 cases a with
 |none=>
  have h0:P=[]:=by rcases hA.2.2 with h|⟨_,_,h,_⟩;exact h;cases h
  subst h0;clear hel hA;go_enter Tryz.func87,Tryz.ntmps87;go_wp2;go_ret;exact⟨_,rfl,OL.nil _ _ _,ag _ _⟩
 |some ad=>
  have hS:apv w P (some ad) c:=apv.of_cl hA (fun h=>by cases h);have HS:=ae hS;have HEL:=ae hel;have hmade:(w.alloc (.cells #[] 62)).ownsRow w.heap.size 62 5 (.slice (some ⟨w.heap.size,0,none⟩) 0 0) 0 []:=World.ownsRow_made w #[] 0 (af _) (by simp[maxLen]) rfl;have HO0:=ae (show OL (· <aM) w.heap.size (.slice (some ⟨w.heap.size,0,none⟩) 0 0) [] (w.alloc (.cells #[] 62)) from⟨hmade,by simp⟩);clear hS hel hmade hA;go_enter Tryz.func87,Tryz.ntmps87
  go_wp2_with (at_builtin;refine aaG ?_)
  refine ae ?_
  have hsrc:apv (w.alloc (.cells #[] 62)) P (some ad) c:=by
   refine⟨fun h=>(by cases h),fun ad' e j u hj=> ?_⟩;have h:=HS.out.2 ad' e j u hj;exact(aq (az w _ _ (World.block_lt_of_cell? w _ h))).trans h
  refine ab5 rfl _ _ rfl (· <aM) w.heap.size (.slice (some ⟨w.heap.size,0,none⟩) 0 0) [] rfl HO0.out (by simp) P (some ad) c rfl hsrc (by simp;omega) ?_;clear hsrc;intro v' w2 hown hgr _;have hb2:Below w.heap.size w w2:=((ag _ w).alloc (af _) _).grown hgr (by simp) (by intro k hk;simp[Value.ownBlock] at hk;omega);have HB:=ae hb2;have HR:=ae (show OL (· <aM) w.heap.size v' P w2 from⟨by simpa using hown,fun x hx=>(HEL.out x hx).keep (fun b hb=>hb2.block b (by have:b<aM:=hb;omega)) (fun _ x=>x)⟩);clear hown hgr hb2;go_wp2;go_ret;exact⟨_,rfl,HR.out,HB.out⟩
theorem al9(x y:LV)(en:y.n=x.n)(el:x.l=y.l)(er:x.r=y.r)(hx:x.sz)(aM:Nat)(w:World)(hn:aM<=w.heap.size)(hX:aa1 aM w x)(hY:aa1 aM w y):
 Calls Tryz.prog 51 #[x.v,y.v] w fun e w'=>e= .returned (.bool true)/\Below w.heap.size w w':=by
 have d0:=(((((aai.below (ag _ w)).and (abT (hY.mono hn))).and (abT (hX.mono hn))).pushL (ag _ _) x).pushL (ag _ _) y);have C1:=ae (fun(W:World) (hX:aa1 W.heap.size W x) (hY:aa1 W.heap.size W y)=>aib x.l y.l el hx.1 W.heap.size x.pa x.ca y.pa y.ca W (af _) hX.la hY.la);have C2:=ae (fun(W:World) (hX:aa1 W.heap.size W x) (hY:aa1 W.heap.size W y)=>aib x.r y.r er hx.2 W.heap.size x.pb x.cb y.pb y.cb W (af _) hX.ra hY.ra);simp only[aah] at d0;have D:=ae d0;have hnn:(x.n==y.n)=true:=by rw[en];simp
 clear hX hY d0 en el er;go_enter Tryz.func51,Tryz.ntmps51
 go_wp2_with fail
 generalize (w.alloc x.obj).alloc y.obj=w1 at D ⊢;generalize hb0:w.heap.size=b0 at D ⊢;have HB0:=ae hb0;clear hb0;refine(C1.out w1 D.out.now.2.2.1 D.out.now.2.2.2.1).mono ?_;rintro e w2 ⟨rfl,hb⟩;have D2:=ae (D.out.mv hb);clear hb D C1;obtain⟨⟨y0,y1,y2,y3,y4⟩,⟨x0,x1,x2,x3,x4⟩,_⟩:=D2.out.now
 go_wp2_with fail
 refine(C2.out w2 D2.out.now.2.2.1 D2.out.now.2.2.2.1).mono ?_;clear x0 x1 x2 x3 x4 y0 y1 y2 y3 y4;rintro e w3 ⟨rfl,hb⟩;have HQ:=ae (D2.out.mv hb).now.2.2.2.2;clear hb D2 C2;go_wp2;go_ret;exact⟨rfl,by rw[HB0.out];exact HQ.out⟩
def axo(n:Nat)(w:World)(i:Value)(wr:World):Prop:=∃k:Nat,k<=n/\i= .int .i64 k/\Below w.heap.size w wr
theorem awX{x y:LV}(h:x.t3=y.t3):y.n=x.n/\x.l=y.l/\x.r=y.r:=by
 simp only[LV.t3,Lt3.mk.injEq] at h;exact⟨h.1.symm,h.2.1,h.2.2⟩
theorem aef(P Q:List LV)(he:t3s P=t3s Q)(hsz:∀x∈P,x.sz)(aM:Nat)(a:Option Addr)(c:Nat)(a':Option Addr)(c':Nat)(w:World)(hn:aM<=w.heap.size)(hP:aaV aM w P a c)(hQ:aaV aM w Q a' c'):
 Calls Tryz.prog 22 #[.slice a P.length c,.slice a' Q.length c'] w fun e w'=>e= .returned (.bool true)/\Below w.heap.size w w':=by
 have hlc:P.length<=c/\c<=maxLen:=⟨hP.1,hP.2.1⟩;unfold maxLen at hlc;obtain⟨hl1,hl2⟩:=hlc;have HL:=ae (show Q.length=P.length from by have:=congrArg List.length he;simpa using this.symm);have HE:=ae he;have HSZ:=ae hsz;have HP:=ae (hP.mono hn);have HQ:=ae (hQ.mono hn);clear hP hQ he hsz;rw[HL.out];go_enter Tryz.func22,Tryz.ntmps22;go_wp2
 go_loopw [5] (fun i wr=>axo P.length w i wr) (fun i _=>P.length-(intOf i).toNat)
 case atStart=>exact⟨0,Nat.zero_le _,rfl,ag _ _⟩
 case round=>
  obtain⟨k,hk,rfl,hB⟩:=hrel;have HB:=ae hB;have hbz:=hB.size;clear hB;by_cases hlt:k<P.length
  ·obtain⟨b,o,x,rfl,hb,hx,⟨a0,a1,a2,a3,a4⟩,hxl⟩:=(HP.out.below HB.out).elem (i:=k) hlt;obtain⟨b',o',y,rfl,hb',hy,⟨b0,b1,b2,b3,b4⟩,hyl⟩:=(HQ.out.below HB.out).elem (i:=k) (by rw[HL.out];exact hlt)
   have hxy:x.t3=y.t3:=by
    have h1:=acr hx;rw[HE.out,acr hy] at h1;exact(Option.some.inj h1).symm
   have hsx:=HSZ.out x (ak hx);obtain⟨e1,e2,e3⟩:=awX hxy;have CE:=ae (fun(W:World) (hW:Below wr.heap.size wr W)=>al9 x y e1 e2 e3 hsx W.heap.size W (af _) (((hxl.mono hbz).below hW).mono hW.size) (((hyl.mono hbz).below hW).mono hW.size));have hk0:(0:Int)<=(k:Int):=aw _;have hk1:(k:Int)<(P.length:Int):=by omega
   clear hx hy hxy e1 e2 e3 hxl hyl;have f0:=fun d os=>cell_regrown a0 d os;have f1:=fun d os=>cell_regrown a1 d os;have f2:=fun d os=>cell_regrown a2 d os;have f3:=fun d os=>cell_regrown a3 d os;have f4:=fun d os=>cell_regrown a4 d os;have g0:=fun d os=>cell_regrown b0 d os;have g1:=fun d os=>cell_regrown b1 d os;have g2:=fun d os=>cell_regrown b2 d os;have g3:=fun d os=>cell_regrown b3 d os;have g4:=fun d os=>cell_regrown b4 d os;go_wp2;refine aa2 (by kernel_rfl) (by kernel_rfl) ?_
   repeat (first
    |(refine WQ.skip (by rfl) ?_;simp only[Act.put,List.setIfInBounds_toArray,List.set_cons_succ,List.set_cons_zero])
    |(apply WQ.two (by rfl);(intro w' hw';obtain⟨pq,rfl⟩:=hw';go_simp;first|(with_reducible exact Calls.regrown_of (CE.out _ (below_regrown _ _ _)))|exact rfl);simp only[Act.put,List.setIfInBounds_toArray,List.set_cons_succ,List.set_cons_zero]))
   refine WQ.nil ?_;intro _ hw';obtain⟨⟨dq,osq⟩,hw''⟩:=hw';subst hw'';go_wp2
   go_roundw
   case rel=>exact⟨k+1,by omega,by go_num,HB.out.trans ((below_regrown wr dq osq).mono hbz)⟩
   case measure=>simp[intOf];omega
  ·obtain rfl:k=P.length:=by omega
   go_wp2;go_ret;exact⟨rfl,HB.out⟩
def avU(g:Sg)(P:List LV)(w:World)(i:Value)(wr:World):Prop:=∃k:Nat,k<=P.length/\i= .int .i64 k/\api g (t3s P)=api g (t3s (P.drop k))/\Below w.heap.size w wr
theorem akN{g:Sg}{P:List LV}{k:Nat}{x:LV}(h:P[k]? =some x):api g (t3s (P.drop k))=if abn g x.l x.r≠0 then abn g x.l x.r else api g (t3s (P.drop (k+1))):=by
 obtain⟨hkl,hke⟩:=ah.1 h;rw[aD hkl,hke];rfl
theorem ag3(g:Sg)(P:List LV)(hsz:∀x∈P,x.sz)(aM:Nat)(ga:Option Addr)(gc:Nat)(a:Option Addr)(c:Nat)(w:World)(hn:aM<=w.heap.size)(hG:aaX aM w g ga gc)(hP:aaV aM w P a c):
 Calls Tryz.prog 17 #[.slice ga g.length gc,.slice a P.length c] w fun e w'=>e= .returned (.int .i64 (aaN g (t3s P)))/\Below w.heap.size w w':=by
 have hlc:P.length<=c/\c<=maxLen:=⟨hP.1,hP.2.1⟩;unfold maxLen at hlc;obtain⟨hl1,hl2⟩:=hlc;have HSZ:=ae hsz;have HP:=ae (hP.mono hn);have HG:=ae (hG.mono hn);clear hP hG hsz;go_enter Tryz.func17,Tryz.ntmps17
 go_wp2_with fail
 refine(ad7 g w.heap.size ga gc w (af _) HG.out).mono ?_;rintro e w2 ⟨rfl,hb⟩;have HB2:=ae hb;have hbz2:=hb.size;clear hb;by_cases hr:aan g=true
 case neg=>
  have HE:=ae (show aaN g (t3s P)=1 from by unfold aaN;rw[if_neg hr]);rw[show aan g=false from by simpa using hr];clear hr;go_wp2;go_ret;exact⟨by rw[HE.out];rfl,HB2.out⟩
 have HR:=ae hr;rw[hr];clear hr;by_cases hl:32<P.length
 ·have HE:=ae (show aaN g (t3s P)=2 from by unfold aaN;rw[if_pos HR.out,if_pos (by simpa using hl)]);have hl':32<(P.length:Int):=by omega
  go_wp2;go_ret;exact⟨by rw[HE.out];rfl,HB2.out⟩
 have HE:=ae (show aaN g (t3s P)=api g (t3s P) from by unfold aaN;rw[if_pos HR.out,if_neg (by simpa using hl)]);have hl':decide (32<(P.length:Int))=false:=decide_eq_false (by omega);go_wp2
 go_loopw [5,6] (fun i _ wr=>avU g P w i wr) (fun i _ _=>P.length-(intOf i).toNat)
 case atStart=>exact⟨0,Nat.zero_le _,rfl,rfl,HB2.out⟩
 case round=>
  obtain⟨k,hk,rfl,he,hB⟩:=hrel;have HB:=ae hB;have hbz:=hB.size;have HED:=ae he;clear hB he;by_cases hlt:k<P.length
  ·obtain⟨b,o,x,rfl,hb,hx,⟨a0,a1,a2,a3,a4⟩,hxl⟩:=(HP.out.below HB.out).elem (i:=k) hlt;have hsx:=HSZ.out x (ak hx);have CK:=ae (ajd g x hsx wr.heap.size ga gc wr (af _) ((HG.out.below HB.out).mono hbz) (hxl.mono hbz));have HX:=ae (HED.out.trans (akN hx));have hk0:(0:Int)<=(k:Int):=aw _;have hk1:(k:Int)<(P.length:Int):=by omega
   clear hx hxl
   go_wp2_with fail
   refine CK.out.mono ?_;rintro e w3 ⟨rfl,hb3⟩;have HB3:=ae (HB.out.trans (hb3.mono hbz));clear hb3 a0 a1 a2 a3 a4;by_cases h:abn g x.l x.r=0
   ·have H:=ae h;rw[h];clear h;go_wp2
    go_roundw
    case rel=>exact⟨k+1,by omega,by go_num,by rw[HX.out,if_neg (fun e=>e H.out)],HB3.out⟩
    case measure=>simp[intOf];omega
   ·have HF:=ae (show aaN g (t3s P)=abn g x.l x.r from by rw[HE.out,HX.out,if_pos h]);obtain⟨m,hm⟩:∃m,abn g x.l x.r=m:=⟨_,rfl⟩;rw[hm] at h HF ⊢;have h2:(m != 0)=true:=by simpa using h
    clear h hm;go_wp2;go_ret;exact⟨by rw[HF.out];rfl,HB3.out⟩
  ·obtain rfl:k=P.length:=by omega
   have HF:=ae (show aaN g (t3s P)=0 from by rw[HE.out,HED.out,List.drop_of_length_le (af _)];rfl);go_wp2;go_ret;exact⟨by rw[HF.out];rfl,HB.out⟩
end Go.Proofs.YtabfapijgfjflaaGreat
