import Derived.Test.YtabfapijgfjflaaGreatMQBk
import Derived.Test.YtabfapijgfjflaaGreatMQBc
import Derived.Test.YtabfapijgfjflaaGreatMQBa
import Derived.Deep.RegionLaw
import Derived.Deep.CutRange
import Derived.Test.YtabfapijgfjflaaGreatMQBn
import Derived.Test.YtabfapijgfjflaaGreatMQBo
import Derived.Test.YtabfapijgfjflaaGreatMQBi
import Derived.Test.YtabfapijgfjflaaGreatMQBd
import Derived.Test.YtabfapijgfjflaaGreatMQBe
import Derived.Test.YtabfapijgfjflaaGreatMQBl
import Derived.BigQuiet
import Derived.Deep.QuietTactic
import Derived.Deep.RegionHeld3
import Derived.OwnWalk
import Derived.Test.YtabfapijgfjflaaGreatMQBm
import Derived.Test.YtabfapijgfjflaaGreatMQBb
import Derived.Test.YtabfapijgfjflaaGreatMQBf
import Derived.Deep.AppendLies
import Derived.Lib.QuietBelow
import Derived.StillTailTactics
import Derived.Test.YtabfapijgfjflaaGreatMAl
set_option linter.unusedVariables false
set_option linter.unusedSimpArgs false
namespace Go.Proofs.YtabfapijgfjflaaGreat
open Go.RowKit
theorem Cs.new'{W:World}{b:Nat}{cs:List Value}{ty:TypeId}(h:W.heap.size=b):Cs b cs (W.alloc (.cells cs.toArray ty)):=by
 subst h;exact(abR W cs.toArray ty).now
theorem Cs.bl{W X:World}{b:Nat}{cs:List Value}(h:Cs b cs W)(hb:Below W.heap.size W X):Cs b cs X:=
 ⟨aF h.1 hb.size,fun i u hu=>(hb.cell (p:=⟨b,i,none⟩) h.1).trans (h.2 i u hu)⟩
theorem Cs.al{W:World}{b:Nat}{cs:List Value}(h:Cs b cs W)(ob:Obj):Cs b cs (W.alloc ob):=h.bl ((ag _ _).alloc (af _) _)
theorem Cs.set{W:World}{b b' o:Nat}{cs:List Value}{u:Value}(h:Cs b cs W)(hne:b≠b'):Cs b cs (W.setCell ⟨b',o,none⟩ u):=
 ⟨by simpa using h.1,fun i v hv=>by rw[World.cell?_setCell_other _ _ _ _ (by intro e;injection e with e1 _ _;exact hne e1.symm)];exact h.2 i v hv⟩
theorem axm{A W:World}(h:Below A.heap.size A W)(ob:Obj):Below A.heap.size A (W.alloc ob):=h.alloc h.size ob
theorem avy{g:Sg}{x y:LV}(h:abn g x.l x.r=0)(h2:abn g y.l y.r=0):lcR g x y=acB g (aeM x.n x.l x.r) (aeM y.n y.l y.r)/\lcE g x y=0:=⟨by unfold lcR;rw[if_pos h,if_pos h2],by unfold lcE;rw[if_pos h,h2]⟩
theorem apu{f:Int->Int}:∀{L:List Int},(∀h∈L,f h<=1000)->adS f L<=1000*L.length
 |[],_=>by simp[adS]
 |h::L,hl=>by
  have h1:=apu (L:=L) (fun x hx=>hl x (aH _ hx));have h2:=hl h (List.mem_cons_self ..);simp only[adS,List.length_cons];omega
theorem avz{g:Sg}{t:T}(hr:aan g=true)(h:OkT g t):wtT g t<=400000:=by
 have h1:=apu (f:=wo g) (L:=t.hds) (fun x hx=>(acZ hr (h.heads x hx)).2);rw[aem,T.hds_length] at h1;have:=(aam h.1).1;omega
abbrev LV.cells(x:LV):List Value:=[.bool x.n,.int .i64 x.l.head,.slice x.pa x.l.args.length x.ca,.int .i64 x.r.head,.slice x.pb x.r.args.length x.cb]
def LV.t3(x:LV):Lt3:=⟨x.n,x.l,x.r⟩
def At5(W:World)(b o:Nat)(x:LV):Prop:=
 W.cell? ⟨b,o,none⟩=some (.bool x.n)/\W.cell? ⟨b,o+1,none⟩=some (.int .i64 x.l.head)/\W.cell? ⟨b,o+2,none⟩=some (.slice x.pa x.l.args.length x.ca)/\W.cell? ⟨b,o+3,none⟩=some (.int .i64 x.r.head)/\W.cell? ⟨b,o+4,none⟩=some (.slice x.pb x.r.args.length x.cb)
theorem At5.keep{W X:World}{b o:Nat}{x:LV}(h:At5 W b o x)(hc:∀i,X.cell? ⟨b,i,none⟩=W.cell? ⟨b,i,none⟩):At5 X b o x:=
 ⟨(hc _).trans h.1,(hc _).trans h.2.1,(hc _).trans h.2.2.1,(hc _).trans h.2.2.2.1,(hc _).trans h.2.2.2.2⟩
def aaV(aM:Nat)(W:World)(P:List LV)(a:Option Addr)(c:Nat):Prop:=
 P.length<=c/\c<=maxLen/\(P=[]\/∃b o,a=some ⟨b,o,none⟩/\b<aM/\∀(j:Nat) (x:LV),P[j]? =some x->At5 W b (o+j*5) x/\aa1 aM W x)
theorem aaV.below{aM:Nat}{w w':World}{P:List LV}{a:Option Addr}{c:Nat}(h:aaV aM w P a c)(hb:Below aM w w'):aaV aM w' P a c:=by
 obtain⟨h1,h2,h3⟩:=h;refine⟨h1,h2,?_⟩
 rcases h3 with h3|⟨b,o,h4,h5,h6⟩
 ·exact .inl h3
 ·exact .inr ⟨b,o,h4,h5,fun j x hx=>⟨(h6 j x hx).1.keep (fun i=>hb.cell (p:=⟨b,i,none⟩) h5),(h6 j x hx).2.below hb⟩⟩
theorem aaV.mono{aM aN:Nat}{w:World}{P:List LV}{a:Option Addr}{c:Nat}(h:aaV aM w P a c)(hn:aM<=aN):aaV aN w P a c:=by
 obtain⟨h1,h2,h3⟩:=h;refine⟨h1,h2,?_⟩
 rcases h3 with h3|⟨b,o,h4,h5,h6⟩
 ·exact .inl h3
 ·exact .inr ⟨b,o,h4,by omega,fun j x hx=>⟨(h6 j x hx).1,(h6 j x hx).2.mono hn⟩⟩
theorem ac6{W:World}{P:List LV}{a:Option Addr}{c:Nat}(h:aaV W.heap.size W P a c):aai (fun X=>aaV X.heap.size X P a c) W:=fun X hX=>(h.below hX).mono hX.size
theorem aaV.elem{aM:Nat}{w:World}{P:List LV}{a:Option Addr}{c:Nat}(h:aaV aM w P a c){i:Nat}(hi:i<P.length):
 ∃(b o:Nat) (x:LV),a=some ⟨b,o,none⟩/\b<aM/\P[i]? =some x/\At5 w b (o+i*5) x/\aa1 aM w x:=by
 obtain⟨_,_,h3⟩:=h
 rcases h3 with rfl|⟨b,o,rfl,h4,h5⟩
 ·simp at hi
 ·exact⟨b,o,P[i],rfl,h4,ai hi,h5 i _ (ai hi)⟩
theorem aaV.nil(aM:Nat)(w:World)(a:Option Addr){c:Nat}(hc:c<=maxLen):aaV aM w [] a c:=⟨by simp,hc,.inl rfl⟩
theorem agN:(Tryz.prog.info? 62).map (fun i=>(i.zero,i.size,i.bytes))=some (some (.agg #[.bool false,.int .i64 0,.slice none 0 0,.int .i64 0,.slice none 0 0]),5,72):=by kernel_rfl
structure adB (ok:Nat->Prop) (w:World) (x:LV):Prop where
 lw:(Lit.int .i64 x.l.head).wf=true
 rw:(Lit.int .i64 x.r.head).wf=true
 la:aaj ok w x.l.args x.pa x.ca
 ra:aaj ok w x.r.args x.pb x.cb
theorem adB.keep{ok ok':Nat->Prop}{w w':World}{x:LV}(h:adB ok w x)(hb:∀b,ok b->w'.heap[b]? =w.heap[b]?)(hm:∀b,ok b->ok' b):adB ok' w' x:=⟨h.lw,h.rw,h.la.keep hb hm,h.ra.keep hb hm⟩
theorem ac7{n:Nat}{w:World}{x:LV}:adB (· <n) w x↔aa1 n w x:=⟨fun h=>⟨h.lw,h.rw,aao.1 h.la,aao.1 h.ra⟩,fun h=>⟨h.lw,h.rw,aao.2 h.la,aao.2 h.ra⟩⟩
def aaf(P:List LV):List Value:=(P.map LV.cells).flatten
theorem abB(P:List LV):(aaf P).length=P.length*5:=by
 induction P with
 |nil=>rfl
 |cons x P ih=>simp only[aaf,List.map_cons,List.flatten_cons,aK] at*;simp[ih];omega
theorem ac8(P Q:List LV):aaf (P++Q)=aaf P++aaf Q:=by simp[aaf]
theorem acG{P:List LV}{j:Nat}{x:LV}(h:P[j]? =some x):(aaf P)[j*5]? =some (.bool x.n)/\(aaf P)[j*5+1]? =some (.int .i64 x.l.head)/\(aaf P)[j*5+2]? =some (.slice x.pa x.l.args.length x.ca)/\(aaf P)[j*5+3]? =some (.int .i64 x.r.head)/\(aaf P)[j*5+4]? =some (.slice x.pb x.r.args.length x.cb):=by
 induction P generalizing j with
 |nil=>simp at h
 |cons y P ih=>
  cases j with
  |zero=>
   simp at h;subst h;exact⟨rfl,rfl,rfl,rfl,rfl⟩
  |succ j=>
   have:=ih (j:=j) (by simpa using h)
   have e:∀i,(aaf (y::P))[(j+1)*5+i]? =(aaf P)[j*5+i]? :=fun i=>by
    simp only[aaf,List.map_cons,List.flatten_cons];rw[List.getElem?_append_right (by simp;omega)]
    congr 1
    simp;omega
   exact⟨(e 0).trans this.1,(e 1).trans this.2.1,(e 2).trans this.2.2.1,(e 3).trans this.2.2.2.1,(e 4).trans this.2.2.2.2⟩
def OL(ok:Nat->Prop)(aN:Nat)(v:Value)(P:List LV)(W:World):Prop:=W.ownsRow aN 62 5 v P.length (aaf P)/\∀x∈P,adB ok W x
theorem OL.nil(ok:Nat->Prop)(aN:Nat)(W:World):OL ok aN (.slice none 0 0) [] W:=⟨⟨by simp[aaf],.inl ⟨rfl,rfl⟩⟩,by simp⟩
theorem OL.kept{ok ok':Nat->Prop}{aN:Nat}{v:Value}{P:List LV}{W W':World}(h:OL ok aN v P W)(hk:∀g,v.ownBlock=some g->W'.heap[g]? =W.heap[g]?)(hb:∀b,ok b->W'.heap[b]? =W.heap[b]?)(hm:∀b,ok b->ok' b):OL ok' aN v P W':=
 ⟨Mm.ownsRow_kept h.1 hk,fun x hx=>(h.2 x hx).keep hb hm⟩
theorem OL.block{ok:Nat->Prop}{aN:Nat}{v:Value}{P:List LV}{W:World}(h:OL ok aN v P W){g:Nat}(hg:v.ownBlock=some g):aN<=g/\g<W.heap.size:=by
 obtain⟨a,b,_⟩:=Mm.rowBlock h.1 hg;exact⟨a,b⟩
theorem OL.later{ok:Nat->Prop}{aN:Nat}{v:Value}{P:List LV}{W W':World}(h:OL ok aN v P W)(ho:∀b,ok b->b<W.heap.size)(hb:Below W.heap.size W W'):OL ok aN v P W':=
 h.kept (fun g hg=>hb.block g (h.block hg).2) (fun b hk=>hb.block b (ho b hk)) (fun _ x=>x)
theorem OL.args{ok:Nat->Prop}{aN:Nat}{v:Value}{P:List LV}{W:World}(h:OL ok aN v P W)(ho:∀b,ok b->b<W.heap.size):∃a c,v= .slice a P.length c/\aaV W.heap.size W P a c:=by
 have hbl:=fun g (hg:v.ownBlock=some g)=>h.block hg;have hcells:=fun g hg=>h.1.cells (g:=g) hg;have hel:∀x∈P,aa1 W.heap.size W x:=fun x hx=>ac7.1 ((h.2 x hx).keep (fun _ _=>rfl) ho)
 rcases h.1.2 with⟨rfl,h0⟩|⟨g,cap,cur,rfl,hb,hh,hn,hc,hs,_⟩
 ·have:P=[]:=aC h0;subst this;exact⟨none,0,rfl,aaV.nil _ _ _ (by simp[maxLen])⟩
 ·refine⟨_,cap,rfl,hn,hc,.inr ⟨g,0,rfl,(hbl g rfl).2,fun j x hx=>⟨?_,hel x (ak hx)⟩⟩⟩
  have hc5:∀i u,(aaf P)[i]? =some u->W.cell? ⟨g,i,none⟩=some u:=fun i u hu=>by
   have:=hcells g rfl i u hu;rw[aaB] at this;simpa using this
  obtain⟨g0,g1,g2,g3,g4⟩:=acG hx;simp only[Nat.zero_add];exact⟨hc5 _ _ g0,hc5 _ _ g1,hc5 _ _ g2,hc5 _ _ g3,hc5 _ _ g4⟩
def apv(w:World)(Q:List LV)(a:Option Addr)(c:Nat):Prop:=
 (a=none->c=0/\Q=[])/\∀ad,a=some ad->∀j u,(aaf Q)[j]? =some u->w.cell? (ad.add j)=some u
theorem apv.of_cl{aN:Nat}{w:World}{Q:List LV}{a:Option Addr}{c:Nat}(hA:aaV aN w Q a c)(hnil:a=none->c=0):apv w Q a c:=by
 refine⟨fun h=>⟨hnil h,?_⟩,fun ad e j u hj=> ?_⟩
 ·rcases hA.2.2 with h'|⟨b,o,h',_⟩
  ·exact h'
  ·rw[h] at h';cases h'
 ·rcases hA.2.2 with rfl|⟨b,o,rfl,hb,hr⟩
  ·simp[aaf] at hj
  ·cases e;rw[aaB];have hjl:j<Q.length*5:=by rw[←abB];exact(ah.1 hj).1
   have hx:Q[j/5]? =some Q[j/5]:=ai (by omega);obtain⟨⟨c0,c1,c2,c3,c4⟩,_⟩:=hr _ _ hx;obtain⟨g0,g1,g2,g3,g4⟩:=acG hx;have hm:j%5=0\/j%5=1\/j%5=2\/j%5=3\/j%5=4:=by omega
   rcases hm with e|e|e|e|e
   ·have hj5:j=j/5*5:=by omega
    have:(aaf Q)[j]? =(aaf Q)[j/5*5]? :=by rw[←hj5]
    rw[this,g0] at hj;cases hj
    have:o+j=o+j/5*5:=by omega
    rw[this];exact c0
   ·have hj5:j=j/5*5+1:=by omega
    have:(aaf Q)[j]? =(aaf Q)[j/5*5+1]? :=by rw[←hj5]
    rw[this,g1] at hj;cases hj
    have:o+j=o+j/5*5+1:=by omega
    rw[this];exact c1
   ·have hj5:j=j/5*5+2:=by omega
    have:(aaf Q)[j]? =(aaf Q)[j/5*5+2]? :=by rw[←hj5]
    rw[this,g2] at hj;cases hj
    have:o+j=o+j/5*5+2:=by omega
    rw[this];exact c2
   ·have hj5:j=j/5*5+3:=by omega
    have:(aaf Q)[j]? =(aaf Q)[j/5*5+3]? :=by rw[←hj5]
    rw[this,g3] at hj;cases hj
    have:o+j=o+j/5*5+3:=by omega
    rw[this];exact c3
   ·have hj5:j=j/5*5+4:=by omega
    have:(aaf Q)[j]? =(aaf Q)[j/5*5+4]? :=by rw[←hj5]
    rw[this,g4] at hj;cases hj
    have:o+j=o+j/5*5+4:=by omega
    rw[this];exact c4
theorem apv.of_one{w:World}{x:LV}{b o:Nat}(h:At5 w b o x):apv w [x] (some ⟨b,o,none⟩) 1:=by
 obtain⟨c0,c1,c2,c3,c4⟩:=h;refine⟨(fun h=>by cases h),fun ad e j u hj=> ?_⟩;cases e;rw[aaB]
 match j,hj with
 |0,hj=>simp[aaf] at hj;subst hj;exact c0
 |1,hj=>simp[aaf] at hj;subst hj;exact c1
 |2,hj=>simp[aaf] at hj;subst hj;exact c2
 |3,hj=>simp[aaf] at hj;subst hj;exact c3
 |4,hj=>simp[aaf] at hj;subst hj;exact c4
 |j+5,hj=>simp[aaf] at hj
theorem an0(Q:List LV):∀u∈aaf Q,u.oneCell'=true:=by
 intro u hu;simp only[aaf,List.mem_flatten,List.mem_map] at hu;obtain⟨l,⟨x,_,rfl⟩,hu⟩:=hu;simp at hu
 rcases hu with rfl|rfl|rfl|rfl|rfl<;>rfl
theorem ab5{w:World}{ops:Array Oper}{rest:List Oper}{o:Oper}{a:Act}{Q:Exit->Act->World->Prop}(hgd:o.guard=none)(s x:Operand)
 (ho:o.op= .call { callee:= .builtin .append,args:=#[s,x],argTypes:=#[23,23]}) (ok:Nat->Prop) (aN:Nat) (v:Value) (P:List LV) (hs:a.eval s=v) (hO:OL ok aN v P w) (hn:aN<=w.heap.size)
 (ls:List LV) (a':Option Addr) (c':Nat) (hx:a.eval x= .slice a' ls.length c') (hS:apv w ls a' c') (hl:P.length+ls.length<=10000000)
 (h:∀v' w',w'.ownsRow aN 62 5 v' (P++ls).length (aaf (P++ls))->w.grownBy w' v.ownBlock->(v'.ownBlock=v.ownBlock\/v'.ownBlock=some w.heap.size)->wpList Tryz.prog ops Q rest (a.put o.dst v') w'):wpList Tryz.prog ops Q (o::rest) a w:=by
 obtain⟨i0,hi,hz0,hz1,hz2⟩:=info_parts agN;obtain⟨hown,_⟩:=hO;obtain⟨hnone,hcl⟩:=hS;cases a' with
 |none=>
  obtain⟨rfl,rfl⟩:=hnone rfl;refine wpList_append_own_none hgd s x 23 ho aN 62 i0 5 Tryz.underlying23 hi v P.length (aaf P) hs hown hx ?_;exact h v w (by simpa using hown) ⟨rfl,rfl,rfl,af _,fun _ _ _=>rfl⟩ (.inl rfl)
 |some ad=>
  have hnl:(aaf ls).length=ls.length*5:=abB ls;obtain⟨v',w',hr,h2,h3,_,h5⟩:=run_append_own_at (P:=Tryz.prog) w aN 23 o.type 62 i0 (.agg #[.bool false,.int .i64 0,.slice none 0 0,.int .i64 0,.slice none 0 0]) 5 72 Tryz.underlying23 hi hz0 hz1 hz2 rfl (by decide) v P.length (aaf P) hown ad ls.length c' (aaf ls) hnl (hcl ad rfl) (an0 ls) (by unfold maxLen;omega) (by omega) hn;refine wpList_plain hgd fun K hK=> ?_;unfold Oper.wp execOp;simp only[ho,resolve,invoke,builtin,Sem.run_bind,Sem.run_pure,Result.andThen_ok,List.map_toArray,List.map_cons,List.map_nil,hs,hx,hr];exact hK _ _ (h v' w' (by rw[ac8];simpa using h2) h3 h5)
theorem OL.append{ok:Nat->Prop}{aN:Nat}{v v':Value}{P ls:List LV}{w w':World}(h:OL ok aN v P w)(hr:w'.ownsRow aN 62 5 v' (P++ls).length (aaf (P++ls)))(hg:w.grownBy w' v.ownBlock)(ho:∀b,ok b->b<w.heap.size/\v.ownBlock≠some b)(hls:∀x∈ls,adB ok w x):OL ok aN v' (P++ls) w':=by
 have hb:∀b,ok b->w'.heap[b]? =w.heap[b]? :=fun b hk=>hg.block b (ho b hk).1 (fun e=>(ho b hk).2 e.symm);refine⟨hr,fun x hx=> ?_⟩
 rcases aG.1 hx with hx|hx
 ·exact(h.2 x hx).keep hb (fun _ x=>x)
 ·exact(hls x hx).keep hb (fun _ x=>x)
theorem aib(x y:T)(h:x=y)(hs:x.size<=1000000000000)(aM:Nat)(a:Option Addr)(c:Nat)(a':Option Addr)(c':Nat)(w:World)(hn:aM<=w.heap.size)(hA:aab aM w x.args a c)(hB:aab aM w y.args a' c'):
 Calls Tryz.prog 69 #[tm x.head a x.args.length c,tm y.head a' y.args.length c'] w fun e w'=>e= .returned (.bool true)/\Below w.heap.size w w':=by
 subst h;refine(aly x x hs hs aM a c a' c' w hn hA hB).mono fun e w' hh=>⟨?_,hh.2⟩;rw[hh.1,T.cmp_self];rfl
theorem apw{ts:List T}{t:T}(h:t∈ts):t.size<=T.sizes ts:=by
 obtain⟨i,hi⟩:=au h;have:=T.size_lt_of_mem hi;omega
theorem afu(ts:List T)(hts:T.sizes ts<=100000)(aM:Nat)(a:Option Addr)(c:Nat)(w:World)(hn:aM<=w.heap.size)(hA:aab aM w ts a c):
 Calls Tryz.prog 41 #[.slice a ts.length c] w (ata (T.rvs [] ts) w):=by
 have hb1:Below w.heap.size w (w.alloc (.cells #[.int .i64 0,.slice a ts.length c] 60)):=(ag _ _).alloc (af _) _;have CC:=ae (alV (T.node 0 ts).size (.node 0 ts) (af _) (by simp only[T.size];omega) aM a c (w.alloc (.cells #[.int .i64 0,.slice a ts.length c] 60)) (by simp;omega) (by simp[T.head];decide) (hA.below (hb1.mono hn)));have HB:=ae hb1;clear hA hb1;go_enter Tryz.func41,Tryz.ntmps41
 go_wp2_with fail
 refine CC.out.mono ?_;rintro e w2 ⟨a2,c2,rfl,hI,hfr,hb⟩;have hrv:(T.node 0 ts).rv=T.rvs [] ts:=by rw[T.rv];rfl
 rw[hrv] at hI ⊢;have HI:=ae hI;have HF:=ae (HB.out.trans (hb.mono (by simp)));have HFR:=ae (show ∀g o m,a2=some ⟨g,o,m⟩->w.heap.size<=g from fun g o m e=>by have:=hfr g o m e;simp at this;omega);clear hI hb hfr hrv;go_wp2;go_ret;exact⟨a2,c2,rfl,HI.out,HFR.out,HF.out⟩
abbrev t3s(P:List LV):List Lt3:=P.map LV.t3
theorem acr{P:List LV}{k:Nat}{x:LV}(h:P[k]? =some x):(t3s P)[k]? =some x.t3:=by simp[h]
theorem ad9{P:List LV}{k:Nat}{x:LV}(h:P[k]? =some x):aad (t3s (P.take (k+1)))=aad (t3s (P.take k))++[x.l,x.r]:=by
 rw[List.take_add_one,h];simp[aad,LV.t3]
theorem ab8(c:List Lt3):(aad c).length=2*c.length:=by
 induction c with
 |nil=>rfl
 |cons x c ih=>simp only[aad,List.map_cons,List.flatten_cons,aK] at*;simp[ih];omega
def atc(D:List T)(w:World)(e:Ending)(w':World):Prop:=∃p c,e= .returned (.slice p D.length c)/\aab w'.heap.size w' D p c/\Below w.heap.size w w'
def awS(P:List LV)(w:World)(ov i:Value)(wr:World):Prop:=∃k:Nat,k<=P.length/\i= .int .i64 k/\OA w.heap.size ov (aad (t3s (P.take k))) wr/\Below w.heap.size w wr
theorem Src.of_two{aN:Nat}{w:World}{x y:T}{e:Option Addr}{f:Nat}{e':Option Addr}{f':Nat}(hw:(Lit.int .i64 x.head).wf=true)(hw':(Lit.int .i64 y.head).wf=true)(hA:aab aN w x.args e f)(hA':aab aN w y.args e' f')(b:Nat)
 (h0:w.cell? ⟨b,0,none⟩=some (.int .i64 x.head)) (h1:w.cell? ⟨b,1,none⟩=some (.slice e x.args.length f)) (h2:w.cell? ⟨b,2,none⟩=some (.int .i64 y.head)) (h3:w.cell? ⟨b,3,none⟩=some (.slice e' y.args.length f')):Src aN w [x,y] (some ⟨b,0,none⟩) 2:=by
 refine⟨(fun h=>by cases h),[.int .i64 x.head,.slice e x.args.length f,.int .i64 y.head,.slice e' y.args.length f'],⟨hw,rfl,⟨e,f,rfl,aao.2 hA⟩,hw',rfl,⟨e',f',rfl,aao.2 hA'⟩,trivial⟩,?_,fun ad e' j u hj=> ?_⟩
 ·intro u hu;simp at hu;rcases hu with rfl|rfl|rfl|rfl<;>rfl
 ·cases e';rw[aaB,Nat.zero_add]
  match j,hj with
  |0,hj=>simp at hj;subst hj;exact h0
  |1,hj=>simp at hj;subst hj;exact h1
  |2,hj=>simp at hj;subst hj;exact h2
  |3,hj=>simp at hj;subst hj;exact h3
  |j+4,hj=>simp at hj
def z3:Lt3:=⟨false,.node 0 [],.node 0 []⟩
def awC(g:Sg)(st:Bool)(x z:Lt3):Bool:=decide (afr g x z=1)||(st&&decide (afr g x z=0))
def okX(g:Sg)(C:List Lt3)(i:Nat)(st:Bool)(k:Nat):Bool:=decide (k=i)|| !(awC g st (C.getD k z3) (C.getD i z3))
def ali(g:Sg)(C:List Lt3)(i:Nat)(st:Bool):Bool:=(List.range C.length).all (okX g C i st)
theorem apx{g:Sg}{C:List Lt3}{i:Nat}{st:Bool}(h:∀k<C.length,okX g C i st k=true):ali g C i st=true:=by
 unfold ali;rw[List.all_eq_true];exact fun k hk=>h k (List.mem_range.1 hk)
theorem aic{g:Sg}{C:List Lt3}{i k:Nat}{st:Bool}(hk:k<C.length)(h:okX g C i st k=false):ali g C i st=false:=by
 unfold ali;rw[List.all_eq_false];exact⟨k,List.mem_range.2 hk,by rw[h];decide⟩
theorem aaD{C:List Lt3}{k:Nat}{x:Lt3}(h:C[k]? =some x):C.getD k z3=x:=by
 rw[List.getD_eq_getElem?_getD,h];rfl
theorem arS{g:Sg}{C:List Lt3}{i:Nat}{st:Bool}:okX g C i st i=true:=by simp[okX]
theorem at9{g:Sg}{C:List Lt3}{i k:Nat}{st:Bool}{x z:Lt3}(hk:k≠i)(hx:C[k]? =some x)(hz:C[i]? =some z)(h:afr g x z=1):okX g C i st k=false:=by
 unfold okX awC;rw[aaD hx,aaD hz,h];simp[hk]
theorem aua{g:Sg}{C:List Lt3}{i k:Nat}{x z:Lt3}(hk:k≠i)(hx:C[k]? =some x)(hz:C[i]? =some z)(h:afr g x z=0):okX g C i true k=false:=by
 unfold okX awC;rw[aaD hx,aaD hz,h];simp[hk]
theorem akC{g:Sg}{C:List Lt3}{i k:Nat}{st:Bool}{x z:Lt3}(hx:C[k]? =some x)(hz:C[i]? =some z)(h:afr g x z≠1)(h2:st=false\/afr g x z≠0):okX g C i st k=true:=by
 unfold okX awC;rw[aaD hx,aaD hz]
 rcases h2 with h2|h2<;>simp[h,h2]
def aid(C:List Lt3)(i:Int):Bool:=decide (0<=i)&&decide (i<(C.length:Int))
def mxE(g:Sg)(C:List Lt3)(i:Int):Int:=if aaN g C=0 then(if aid C i then 0 else 1) else aaN g C
def mxR(g:Sg)(C:List Lt3)(i:Int)(st:Bool):Bool:=if aaN g C=0 then(if aid C i then ali g C i.toNat st else false) else false
theorem avA{g:Sg}{C:List Lt3}{i:Int}{st:Bool}(h:aaN g C≠0):mxE g C i=aaN g C/\mxR g C i st=false:=⟨by unfold mxE;rw[if_neg h],by unfold mxR;rw[if_neg h]⟩
theorem avB{g:Sg}{C:List Lt3}{i:Int}{st:Bool}(h:aaN g C=0)(hi:aid C i=false):mxE g C i=1/\mxR g C i st=false:=⟨by unfold mxE;rw[if_pos h,hi];rfl,by unfold mxR;rw[if_pos h,hi];rfl⟩
theorem aub{g:Sg}{C:List Lt3}{i:Int}{st:Bool}(h:aaN g C=0)(hi:aid C i=true):mxE g C i=0/\mxR g C i st=ali g C i.toNat st:=⟨by unfold mxE;rw[if_pos h,hi];rfl,by unfold mxR;rw[if_pos h,hi];rfl⟩
theorem arT{g:Sg}{x y:LV}(h:abn g x.l x.r=0)(h2:abn g y.l y.r=0):lcR g x y=afr g x.t3 y.t3/\lcE g x y=0:=avy h h2
def wtB(g:Sg)(x:Lt3):Int:=wtT g x.l+wtT g x.r
def abo(g:Sg)(hv:Bool)(C:List Lt3):Nat->Int
 |0=> -1
 |k+1=>if(C.getD k z3).neg then(if abo g hv C k<0 then(k:Int) else if hv&&decide (wtB g (C.getD (abo g hv C k).toNat z3)<wtB g (C.getD k z3)) then(k:Int) else abo g hv C k) else abo g hv C k
theorem adK{g:Sg}{hv:Bool}{C:List Lt3}:∀k,abo g hv C k<0↔∀j<k,(C.getD j z3).neg=false
 |0=>by simp[abo]
 |k+1=>by
  have ih:=adK (g:=g) (hv:=hv) (C:=C) k;rw[abo];constructor
  ·intro h;split at h
   ·split at h
    ·omega
    ·split at h<;>omega
   ·rename_i hn;intro j hj;by_cases e:j=k
    ·subst e;simpa using hn
    ·exact ih.1 h j (by omega)
  ·intro h;rw[h k (by omega),if_neg (by decide)];exact ih.2 fun j hj=>h j (by omega)
theorem aie{g:Sg}{hv:Bool}{C:List Lt3}{k:Nat}:∀n,(∀j,k<=j->j<n->(C.getD j z3).neg=false)->k<=n->abo g hv C n=abo g hv C k
 |0,h,hk=>by have:k=0:=by omega
             subst this;rfl
 |n+1,h,hk=>by
  by_cases e:k=n+1
  ·subst e;rfl
  ·rw[abo,h n (by omega) (by omega),if_neg (by decide)];exact aie n (fun j h1 h2=>h j h1 (by omega)) (by omega)
def abb(g:Sg)(C:List Lt3)(how:Int):List Int:=if how=0 then[] else if abo g (decide (how=2)) C C.length<0 then[] else[abo g (decide (how=2)) C C.length]
def seE(g:Sg)(C:List Lt3)(how:Int):Int:=if aaN g C=0 then(if 0<=how/\how<=2 then 0 else 1) else aaN g C
def seL(g:Sg)(C:List Lt3)(how:Int):List Int:=if aaN g C=0 then(if 0<=how/\how<=2 then abb g C how else[]) else[]
theorem avC{g:Sg}{C:List Lt3}{how:Int}(h:aaN g C≠0):seE g C how=aaN g C/\seL g C how=[]:=⟨by unfold seE;rw[if_neg h],by unfold seL;rw[if_neg h]⟩
theorem avD{g:Sg}{C:List Lt3}{how:Int}(h:aaN g C=0)(hh:¬(0<=how/\how<=2)):seE g C how=1/\seL g C how=[]:=⟨by unfold seE;rw[if_pos h,if_neg hh],by unfold seL;rw[if_pos h,if_neg hh]⟩
theorem apy{g:Sg}{C:List Lt3}{how:Int}(h:aaN g C=0)(hh:0<=how/\how<=2):seE g C how=0/\seL g C how=abb g C how:=⟨by unfold seE;rw[if_pos h,if_pos hh],by unfold seL;rw[if_pos h,if_pos hh]⟩
theorem adL{g:Sg}{C:List Lt3}{how:Int}(h:seE g C how=0):aaN g C=0/\(0<=how/\how<=2):=by
 unfold seE at h;split at h
 ·split at h
  ·exact⟨by assumption,by assumption⟩
  ·cases h
 ·contradiction
def ap3(s:Sb)(x:Lt3):Lt3:=⟨x.neg,abe s x.l,abe s x.r⟩
def ak3(s:Sb)(x:Lt3):Int:=if aeN s x.l=0 then aeN s x.r else aeN s x.l
def aks(s:Sb):List Lt3->Int
 |[]=>0
 |x::c=>if ak3 s x≠0 then ak3 s x else aks s c
def acE(s:Sb)(C:List Lt3):Int:=if 32<C.length then 2 else aks s C
def acL(s:Sb)(C:List Lt3):List Lt3:=if acE s C=0 then C.map (ap3 s) else[]
theorem apz{s:Sb}:∀{c:List Lt3},aks s c=0↔∀x∈c,ak3 s x=0
 |[]=>by simp[aks]
 |x::c=>by
  rw[aks];by_cases h:ak3 s x=0
  ·rw[if_neg (fun e=>e h),apz];simp[h]
  ·rw[if_pos h];simp[h]
theorem arU{s:Sb}{c:List Lt3}{k:Nat}{x:Lt3}(h:c[k]? =some x):aks s (c.drop k)=if ak3 s x≠0 then ak3 s x else aks s (c.drop (k+1)):=by
 obtain⟨hk,rfl⟩:=ah.1 h;rw[aD hk,aks]
theorem avE(s:Sb)(x:LV):apK s x=ak3 s x.t3:=rfl
theorem agO{s:Sb}{C:List Lt3}(h:acE s C=0):C.length<=32/\(∀x∈C,ak3 s x=0)/\acL s C=C.map (ap3 s):=by
 refine⟨?_,?_,by unfold acL;rw[if_pos h]⟩
 ·unfold acE at h;split at h
  ·cases h
  ·omega
 ·unfold acE at h;split at h
  ·cases h
  ·exact apz.1 h
theorem apA{s:Sb}{C:List Lt3}(h:acE s C≠0):acL s C=[]:=by unfold acL;rw[if_neg h]
theorem alW{s:Sb}{x:Lt3}(h:ak3 s x=0):aeN s x.l=0/\aeN s x.r=0:=by
 unfold ak3 at h;split at h
 ·exact⟨by assumption,h⟩
 ·contradiction
def myE(g:Sg)(C:List Lt3)(how i:Int)(s:Sb):Int:=if seE g C how=0 then(if aid C i then(if acE s C=0 then aaN g (acL s C) else acE s C) else 1) else seE g C how
def myR(g:Sg)(C:List Lt3)(how i:Int)(s:Sb):Bool:=if myE g C how i s=0 then(if abb g C how=[] then ali g (acL s C) i.toNat (!(C.getD i.toNat z3).neg) else decide (i∈abb g C how)) else false
theorem acs{s:Sb}{t:T}(h:aeN s t=0):abe s t=t.sub (ofS s)/\t.check=0/\(t.sub (ofS s)).check=0:=by
 unfold aeN at h;split at h
 ·rename_i hg;refine⟨?_,?_,h⟩
  ·unfold abe amN;rw[if_pos hg,if_pos h]
  ·have:=hg;simp[agL] at this;exact this.2
 ·cases h
theorem abq{g:Sg}{l r:T}(h:abn g l r=0):aaH g l=0/\aaH g r=0:=by
 unfold abn at h;split at h
 ·contradiction
 ·rename_i h1;split at h
  ·contradiction
  ·rename_i h2;exact⟨by simpa using h1,by simpa using h2⟩
theorem arV(g:Sg)(C:List Lt3)(how:Int):(abb g C how).length<=1:=by
 unfold abb;split
 ·simp
 ·split<;>simp
def ajf(x:Lt3):Bool:=x.neg&&ac4 x.l x.r
def ajg(out:List Lt3)(x:Lt3):Bool:=ajf x||out.any (fun y=>acF y x)
def aif(out:List Lt3)(x:Lt3):List Lt3:=if ajg out x then out else out++[x]
def tidy(c:List Lt3):List Lt3:=c.foldl aif []
theorem akD{c:List Lt3}{k:Nat}{x:Lt3}(h:c[k]? =some x):tidy (c.take (k+1))=aif (tidy (c.take k)) x:=by
 unfold tidy;rw[List.take_add_one,h,List.foldl_append];rfl
structure aeL (out:List Lt3):Prop where
 dif:∀(i j:Nat) (x y:Lt3),i<j->out[i]? =some x->out[j]? =some y->acF x y=false
 say:∀x∈out,ajf x=false
theorem aeL.step{out:List Lt3}(h:aeL out)(x:Lt3):aeL (aif out x):=by
 unfold aif;by_cases hd:ajg out x=true
 ·rw[if_pos hd];exact h
 ·rw[if_neg hd];unfold ajg at hd;rw[Bool.not_eq_true,Bool.or_eq_false_iff,List.any_eq_false] at hd;obtain⟨h1,h2⟩:=hd;refine⟨fun i j u v hij hu hv=> ?_,fun u hu=> ?_⟩
  ·by_cases hj:j<out.length
   ·rw[List.getElem?_append_left hj] at hv;rw[List.getElem?_append_left (by omega)] at hu;exact h.dif i j u v hij hu hv
   ·have hjl:j=out.length:=by
     have:=(ah.1 hv).1;simp at this;omega
    subst hjl;rw[List.getElem?_append_left (by omega)] at hu;simp at hv;subst hv;have:=h2 u (ak hu);simpa using this
  ·rcases aG.1 hu with hu|hu
   ·exact h.say u hu
   ·simp at hu;subst hu;exact h1
theorem apB:∀(c:List Lt3) {out:List Lt3},aeL out->aeL (c.foldl aif out)
 |[],_,h=>h
 |x::c,out,h=>by rw[List.foldl_cons];exact apB c (h.step x)
theorem auc(c:List Lt3):aeL (tidy c):=apB c ⟨fun i j x y _ h=>by simp at h,by simp⟩
theorem amS:∀(c out:List Lt3),∀x∈c.foldl aif out,x∈out\/x∈c
 |[],_,x,h=> .inl h
 |y::c,out,x,h=>by
  rw[List.foldl_cons] at h
  rcases amS c _ x h with h|h
  ·unfold aif at h;split at h
   ·exact .inl h
   ·rcases aG.1 h with h|h
    ·exact .inl h
    ·simp at h;subst h;exact .inr (List.mem_cons_self ..)
  ·exact .inr (aH _ h)
theorem arW{c:List Lt3}{x:Lt3}(h:x∈tidy c):x∈c:=by
 rcases amS c [] x h with h|h
 ·cases h
 ·exact h
theorem apC{c:List Lt3}(h:aeL c):tidy c=c:=by
 suffices ∀k,k<=c.length->tidy (c.take k)=c.take k by
  have:=this c.length (af _);rwa[List.take_length] at this
 intro k
 induction k with
 |zero=>intro _;rfl
 |succ k ih=>
  intro hk;have hx:c[k]? =some c[k]:=ai (by omega);rw[akD hx,ih (by omega),List.take_add_one,hx];unfold aif;rw[if_neg]
  ·rfl
  ·unfold ajg;rw[Bool.not_eq_true,Bool.or_eq_false_iff,List.any_eq_false];refine⟨h.say _ (ak hx),fun y hy=> ?_⟩;obtain⟨i,hi⟩:=au hy
   have hik:i<k:=by
    have:=(ah.1 hi).1;simp at this;omega
   rw[List.getElem?_take_of_lt hik] at hi;simpa using h.dif i k y _ hik hi hx
open Go.Sort
structure WQ (P:Program) (ops:Array Oper) (C:World->Prop) (Q:Act->Prop) (l:List Oper) (a:Act):Prop where
 out:wpQuiet P ops C Q l a
section
variable {P:Program} {ops:Array Oper} {C:World->Prop} {Q:Act->Prop} {a:Act} {o:Oper} {rest:List Oper}
theorem WQ.nil(h:Q a):WQ P ops C Q [] a:=⟨wpQuiet_nil h⟩
theorem WQ.skip(hw:Region.wanted o (yielded ops a.tmps)=false)(h:WQ P ops C Q rest (a.put o.dst undef)):WQ P ops C Q (o::rest) a:=by
 refine⟨?_⟩;unfold wpQuiet;rw[hw];exact h.out
theorem WQ.two{v:Value}(hw:Region.wanted o (yielded ops a.tmps)=true)(h:∀w,C w->o.quietAt P a C w v)(hr:WQ P ops C Q rest (a.put o.dst v)):WQ P ops C Q (o::rest) a:=by
 refine⟨?_⟩;unfold wpQuiet;rw[hw];exact⟨v,h,hr.out⟩
end
theorem aa2{P:Program}{id:Nat}{Q:Exit->Act->World->Prop}{a:Act}{w:World}{l:List Oper}(hm:P.follows .mixedOrders=true)(hB:Region.lexB .any l.toArray=true)
 (h:WQ P l.toArray (fun w'=>∃p:Regrown,w'=grow (redrawn w p.d) p.os) (fun a'=>∀w',(∃p:Regrown,w'=grow (redrawn w p.d) p.os)->Q .normal a' w') l a):(Code.region id l.toArray true).wp P Q a w:=
 wp_region_quiet_below hm hB h.out
end Go.Proofs.YtabfapijgfjflaaGreat
namespace Go.Proofs.YtabfapijgfjflaaGreat
open Go.RowKit
theorem arX:(Tryz.prog.info? 107).map (fun i=>(i.zero,i.size,i.bytes))=some (some (.agg #[.int .i64 0,.int .i64 0,.slice none 0 0]),3,40):=by kernel_rfl
def acf(ok:Nat->Prop)(w:World):Sb->List Value->Prop
 |[],[]=>True
 |(x,t)::s,v::h::l::xs=>(Lit.int .i64 x).wf=true/\v= .int .i64 x/\(Lit.int .i64 t.head).wf=true/\h= .int .i64 t.head/\(∃a c,l= .slice a t.args.length c/\aaj ok w t.args a c)/\acf ok w s xs
 |_,_=>False
theorem acf.keep{ok ok':Nat->Prop}{w w':World}(h:∀b,ok b->w'.heap[b]? =w.heap[b]?)(hm:∀b,ok b->ok' b):∀{s:Sb} {xs:List Value},acf ok w s xs->acf ok' w' s xs
 |[],[],_=>trivial
 |(_,_)::_,_::_::_::_,⟨h1,h2,h3,h4,⟨a,c,h5,h6⟩,h7⟩=>⟨h1,h2,h3,h4,⟨a,c,h5,h6.keep h hm⟩,acf.keep h hm h7⟩
 |[],_::_,h=>h.elim
 |(_,_)::_,[],h=>h.elim
 |(_,_)::_,[_],h=>h.elim
 |(_,_)::_,[_,_],h=>h.elim
theorem acf.snoc{ok:Nat->Prop}{w:World}{x:Int}{t:T}{a:Option Addr}{c:Nat}(h0:(Lit.int .i64 x).wf=true)(h1:(Lit.int .i64 t.head).wf=true)(h4:aaj ok w t.args a c):∀{s:Sb} {xs:List Value},acf ok w s xs->acf ok w (s++[(x,t)]) (xs++[.int .i64 x,.int .i64 t.head,.slice a t.args.length c])
 |[],[],_=>⟨h0,rfl,h1,rfl,⟨a,c,rfl,h4⟩,trivial⟩
 |(_,_)::_,_::_::_::_,⟨p1,p2,p3,p4,p5,p6⟩=>⟨p1,p2,p3,p4,p5,acf.snoc h0 h1 h4 p6⟩
 |[],_::_,h=>h.elim
 |(_,_)::_,[],h=>h.elim
 |(_,_)::_,[_],h=>h.elim
 |(_,_)::_,[_,_],h=>h.elim
theorem acf.length{ok:Nat->Prop}{w:World}:∀{s:Sb} {xs:List Value},acf ok w s xs->xs.length=s.length*3
 |[],[],_=>rfl
 |(_,_)::_,_::_::_::_,⟨_,_,_,_,_,p⟩=>by simp[p.length];omega
 |[],_::_,h=>h.elim
 |(_,_)::_,[],h=>h.elim
 |(_,_)::_,[_],h=>h.elim
 |(_,_)::_,[_,_],h=>h.elim
theorem acf.get{ok:Nat->Prop}{w:World}:∀{s:Sb} {xs:List Value} {j:Nat} {x:Int} {t:T},acf ok w s xs->s[j]? =some (x,t)->
 (Lit.int .i64 x).wf=true/\(Lit.int .i64 t.head).wf=true/\xs[j*3]? =some (.int .i64 x)/\xs[j*3+1]? =some (.int .i64 t.head)/\∃a c,xs[j*3+2]? =some (.slice a t.args.length c)/\aaj ok w t.args a c
 |[],[],j,x,t,_,hj=>by simp at hj
 |(y,u)::s,v::h::l::xs,0,x,t,⟨h1,h2,h3,h4,⟨a,c,h5,h6⟩,h7⟩,hj=>by
  simp at hj;obtain⟨rfl,rfl⟩:=hj;subst h2 h4 h5;exact⟨h1,h3,rfl,rfl,a,c,rfl,h6⟩
 |(y,u)::s,v::h::l::xs,j+1,x,t,⟨h1,h2,h3,h4,_,h7⟩,hj=>by
  have:=acf.get h7 (j:=j) (x:=x) (t:=t) (by simpa using hj);rw[show(j+1)*3=j*3+3 from by omega];exact this
 |[],_::_,_,_,_,h,_=>h.elim
 |(_,_)::_,[],_,_,_,h,_=>h.elim
 |(_,_)::_,[_],_,_,_,h,_=>h.elim
 |(_,_)::_,[_,_],_,_,_,h,_=>h.elim
def ix(N:List Int)(v:Int):Int:=(N.idxOf v:Nat)
theorem avF{N:List Int}{u v:Int}(h:u∈N):ix (N++[v]) u=ix N u:=by
 unfold ix;rw[List.idxOf_append,if_pos h]
theorem atd{N:List Int}{v:Int}(h:v∉N):ix (N++[v]) v=N.length:=by
 unfold ix;rw[List.idxOf_append,if_neg h];simp
def au4(V:List Int):Sb:=V.mapIdx (fun i v=>(v,vt (i:Int)))
theorem ajh:∀(V:List Int) (s:Nat) (v:Int),v∈V->ofS (V.mapIdx (fun i v=>(v,vt ((i+s:Nat):Int)))) v=vt ((V.idxOf v+s:Nat):Int)
 |[],s,v,h=>by simp at h
 |u::V,s,v,h=>by
  rw[List.mapIdx_cons,ofS,List.idxOf_cons];by_cases e:u=v
  ·subst e;simp
  ·rw[if_neg e,show(u==v)=false from by simpa using e]
   have hv:v∈V:=by
    rcases List.mem_cons.1 h with rfl|h
    ·exact absurd rfl e
    ·exact h
   have:=ajh V (s+1) v hv;simp only[cond_false];rw[show V.idxOf v+1+s=V.idxOf v+(s+1) from by omega,←this]
   congr 2
   funext i v
   rw[show i+1+s=i+(s+1) from by omega]
theorem aud{V:List Int}{v:Int}(h:v∈V):ofS (au4 V) v=vt (ix V v):=by
 have:=ajh V 0 v h;simpa[au4,ix] using this
def abv(ts:List T):Bool:=ts.any fun t=>decide (t.check≠0)
def aw6(ts:List T)(w:World)(i:Value)(wr:World):Prop:=∃k:Nat,k<=ts.length/\i= .int .i64 k/\abv ts=abv (ts.drop k)/\Below w.heap.size w wr
def okD(v:Value)(W:World)(b:Nat):Prop:=b<W.heap.size/\v.ownBlock≠some b
theorem arY{t:T}(hb:bad (T.subs 1 t)=false){v:Int}(hv:v∈t.rv):0<=v/\v<=255:=by
 rw[T.rv_eq,aeY] at hv;obtain⟨x,hx,hn,rfl⟩:=hv;unfold bad at hb;rw[List.any_eq_false] at hb;have:=hb x hx;simp only[Bool.not_eq_true,Bool.not_eq_false'] at this;unfold okB at this;rw[if_pos hn,Bool.and_eq_true,decide_eq_true_eq,decide_eq_true_eq] at this;omega
theorem aji{v:Int}:∀{ts:List T} {acc:List Int},v∈T.rvs acc ts↔v∈acc\/∃t∈ts,v∈t.rv
 |[],acc=>by simp[T.rvs]
 |t::ts,acc=>by
  rw[T.rvs,aji,as9];simp only[List.mem_cons,exists_eq_or_imp];constructor
  ·rintro((h|h)|h)
   ·exact .inl h
   ·exact .inr (.inl h)
   ·exact .inr (.inr h)
  ·rintro(h|h|h)
   ·exact .inl (.inl h)
   ·exact .inl (.inr h)
   ·exact .inr h
theorem alX{ts:List T}(hb:abv ts=false){v:Int}(hv:v∈T.rvs [] ts):0<=v/\v<=255:=by
 rcases aji.1 hv with h|⟨t,ht,h⟩
 ·cases h
 ·unfold abv at hb;rw[List.any_eq_false] at hb;have:=hb t ht;simp only[decide_eq_true_eq,ne_eq,Decidable.not_not] at this;exact arY (aam this).2.2 h
def nuC(c:List Lt3):Sb:=au4 (T.rvs [] (aad c))
def nmL(c:List Lt3):List Lt3:=if abv (aad c) then[] else c.map (Lt3.sub (ofS (nuC c)))
def nmE(c:List Lt3):Int:=if abv (aad c) then 1 else 0
def apD(D:List Lt3)(k:Int)(w:World)(e:Ending)(w':World):Prop:=∃(P:List LV) (p:Option Addr) (c:Nat),t3s P=D/\e= .returned (.tuple #[.slice p P.length c,.int .i64 k])/\aaV w'.heap.size w' P p c/\Below w.heap.size w w'
mutual
def T.nrm:T->List Int->T×List Int
 | .node h ts,N=>if h<0 then(.node (-1-ix (aat N (-1-h)) (-1-h)) [],aat N (-1-h)) else(.node h (T.nrms ts N).1,(T.nrms ts N).2)
def T.nrms:List T->List Int->List T×List Int
 |[],N=>([],N)
 |t::ts,N=>((t.nrm N).1::(T.nrms ts (t.nrm N).2).1,(T.nrms ts (t.nrm N).2).2)
end
theorem T.nrm_neg{t:T}{N:List Int}(h:t.head<0):t.nrm N=(.node (-1-ix (aat N (-1-t.head)) (-1-t.head)) [],aat N (-1-t.head)):=by
 cases t;rw[T.nrm];exact if_pos h
theorem T.nrm_pos{t:T}{N:List Int}(h:¬t.head<0):t.nrm N=(.node t.head (T.nrms t.args N).1,(T.nrms t.args N).2):=by
 cases t;rw[T.nrm];exact if_neg h
theorem T.nrms_append(xs ys:List T)(N:List Int):T.nrms (xs++ys) N=((T.nrms xs N).1++(T.nrms ys (T.nrms xs N).2).1,(T.nrms ys (T.nrms xs N).2).2):=by
 induction xs generalizing N with
 |nil=>simp[T.nrms]
 |cons x xs ih=>simp only[List.cons_append,T.nrms,ih]
theorem T.nrms_length(ts:List T)(N:List Int):(T.nrms ts N).1.length=ts.length:=by
 induction ts generalizing N with
 |nil=>rfl
 |cons t ts ih=>simp[T.nrms,ih]
theorem T.nrms_take{ts:List T}{k:Nat}{s:T}(h:ts[k]? =some s)(N:List Int):T.nrms (ts.take (k+1)) N=((T.nrms (ts.take k) N).1++[(s.nrm (T.nrms (ts.take k) N).2).1],(s.nrm (T.nrms (ts.take k) N).2).2):=by
 obtain⟨hk,e⟩:=ah.1 h;rw[aI hk,e,T.nrms_append];simp[T.nrms]
mutual
theorem T.nrm_len(t:T)(N:List Int):(t.nrm N).2.length<=N.length+t.size:=by
 match t with
 | .node h ts=>
   rw[T.nrm];split
   ·have:∀v,(aat N v).length<=N.length+1:=fun v=>by unfold aat;split<;>simp
    have:=this (-1-h);simp only[T.size];omega
   ·have:=T.nrms_len ts N;simp only[T.size];omega
theorem T.nrms_len(ts:List T)(N:List Int):(T.nrms ts N).2.length<=N.length+T.sizes ts:=by
 match ts with
 |[]=>simp[T.nrms,T.sizes]
 |t::ts=>
  have h1:=T.nrm_len t N;have h2:=T.nrms_len ts (t.nrm N).2;simp only[T.nrms,T.sizes];omega
end
theorem aaq(v:Int):(vt v).head= -1-v:=rfl
def ajj(t:T):List Int:=varsOf (T.subs 1 t)
theorem agP{t s:T}{i:Nat}(hi:t.args[i]? =some s){g:Int}(hg:g∈s.heads):g∈t.heads:=by
 rw[T.heads_eq];exact aH _ (List.mem_flatten.2 ⟨_,List.mem_map.2 ⟨s,ak hi,rfl⟩,hg⟩)
theorem acu{f g:Int->T}:∀(N:Nat) (t:T),t.size<=N->bad (T.subs 1 t)=false->(∀h∈t.heads,h<0->f (-1-h)=g (-1-h))->t.sub f=t.sub g:=by
 intro N
 induction N with
 |zero=>intro t ht;have:=T.size_pos t;omega
 |succ N ih=>
  intro t ht hg hf;by_cases q:t.head<0
  ·rw[T.sub_neg q,T.sub_neg q];exact hf t.head (by rw[T.heads_eq];simp) q
  ·rw[T.sub_pos q,T.sub_pos q]
   congr 1
   apply List.map_congr_left;intro s hs;obtain⟨i,hi⟩:=au hs;exact ih s (by have:=T.size_lt_of_mem hi;have:=T.size_eq t;omega) (aaA hg hi) (fun h h1 h2=>hf h (agP hi h1) h2)
theorem acg(t:T)(v:Int):v∈ajj t↔ -1-v∈t.heads/\0<=v:=by
 rw[ajj,ai3];constructor
 ·rintro⟨h,h1,h2,rfl⟩;rw[show-1-(-1-h)=h from by omega];exact⟨h1,by omega⟩
 ·rintro⟨h1,h2⟩;exact⟨_,h1,by omega,by omega⟩
theorem agQ{t:T}(hg:bad (T.subs 1 t)=false){z:Int}(hz:z∈ajj t):0<=z/\z<=255:=by
 obtain⟨x,hx,h1,rfl⟩:=(aeY _ _).1 hz;unfold bad at hg;rw[List.any_eq_false] at hg;have:=hg x hx;simp only[Bool.not_eq_true',Bool.not_eq_false] at this;simp only[okB,if_pos h1,Bool.and_eq_true,decide_eq_true_iff] at this;omega
theorem an1{t:T}(hg:bad (T.subs 1 t)=false)(hn:t.head<0)(v:Int):v∈ajj t↔v= -1-t.head:=by
 rw[acg,T.heads_eq,aaZ hg hn];simp;omega
theorem an2{t:T}(hn:¬t.head<0)(v:Int):v∈ajj t↔∃s∈t.args,v∈ajj s:=by
 rw[acg,T.heads_eq];simp only[List.mem_cons,List.mem_flatten,List.mem_map];constructor
 ·rintro⟨h|⟨_,⟨s,hs,rfl⟩,h⟩,h0⟩
  ·omega
  ·exact⟨s,hs,(acg _ _).2 ⟨h,h0⟩⟩
 ·rintro⟨s,hs,h⟩;obtain⟨h1,h2⟩:=(acg _ _).1 h;exact⟨.inr ⟨_,⟨s,hs,rfl⟩,h1⟩,h2⟩
theorem avG{ρ:Int->Int}{P:Int->Prop}(hinj:∀u v,P u->P v->ρ u=ρ v->u=v){L:List Int}(hL:∀u∈L,P u){v:Int}(hv:P v):ix (L.map ρ) (ρ v)=ix L v:=by
 unfold ix
 congr 1
 induction L with
 |nil=>rfl
 |cons u L ih=>
  rw[List.map_cons,List.idxOf_cons,List.idxOf_cons];by_cases e:u=v
  ·subst e;simp
  ·have hne:¬ρ u=ρ v:=fun h=>e (hinj u v (hL u (by simp)) hv h);rw[show(ρ u==ρ v)=false from by simpa using hne,show(u==v)=false from by simpa using e];simp only[cond_false];rw[ih fun x hx=>hL x (by simp[hx])]
theorem an3{ρ:Int->Int}{P:Int->Prop}(hinj:∀u v,P u->P v->ρ u=ρ v->u=v){N:List Int}(hN:∀u∈N,P u){v:Int}(hv:P v):aat (N.map ρ) (ρ v)=(aat N v).map ρ:=by
 unfold aat;by_cases h:v∈N
 ·rw[if_pos (by simp;exact⟨v,h,rfl⟩),if_pos (by simpa using h)]
 ·rw[if_neg (by simp;intro u hu e;exact h (hinj u v (hN u hu) hv e▸hu)),if_neg (by simpa using h)];simp
mutual
theorem T.nrm_ren(ρ:Int->Int)(P:Int->Prop)(hinj:∀u v,P u->P v->ρ u=ρ v->u=v)(hpos:∀v,P v->0<=ρ v)(t:T)(hg:bad (T.subs 1 t)=false)(hP:∀h∈t.heads,h<0->P (-1-h))(N:List Int)(hN:∀v∈N,P v):
 (t.sub (fun v=>vt (ρ v))).nrm (N.map ρ)=((t.nrm N).1,(t.nrm N).2.map ρ)/\∀v∈(t.nrm N).2,P v:=by
 match t with
 | .node h ts=>
   by_cases q:h<0
   ·have hv:P (-1-h):=hP h (by rw[T.heads_eq];simp[T.head]) q;have hp:=hpos _ hv;have e1:(T.node h ts).sub (fun v=>vt (ρ v))=vt (ρ (-1-h)):=T.sub_neg (t:= .node h ts) q;rw[e1,T.nrm_neg (t:=vt (ρ (-1-h))) (by rw[aaq];omega),aaq,show-1-(-1-ρ (-1-h))=ρ (-1-h) from by omega,T.nrm_neg (t:= .node h ts) q];simp only[T.head]
    have hdd:∀u∈aat N (-1-h),P u:=fun u hu=>by
     rcases adJ.1 hu with hu|rfl
     ·exact hN u hu
     ·exact hv
    rw[an3 hinj hN hv,avG hinj hdd hv];exact⟨rfl,hdd⟩
   ·have e1:(T.node h ts).sub (fun v=>vt (ρ v))= .node h (ts.map (T.sub (fun v=>vt (ρ v)))):=T.sub_pos (t:= .node h ts) q;rw[e1,T.nrm_pos (t:= .node h (ts.map (T.sub (fun v=>vt (ρ v))))) q,T.nrm_pos (t:= .node h ts) q];simp only[T.head,T.args];have hgs:∀s∈ts,bad (T.subs 1 s)=false:=fun s hs=>by obtain⟨i,hi⟩:=au hs;exact aaA (t:= .node h ts) hg hi
    have hPs:∀s∈ts,∀g∈s.heads,g<0->P (-1-g):=fun s hs g hg' hn=>by obtain⟨i,hi⟩:=au hs;exact hP g (agP (t:= .node h ts) hi hg') hn
    obtain⟨h1,h2⟩:=T.nrms_ren ρ P hinj hpos ts hgs hPs N hN;rw[h1];exact⟨rfl,h2⟩
theorem T.nrms_ren(ρ:Int->Int)(P:Int->Prop)(hinj:∀u v,P u->P v->ρ u=ρ v->u=v)(hpos:∀v,P v->0<=ρ v)(ts:List T)(hg:∀s∈ts,bad (T.subs 1 s)=false)(hP:∀s∈ts,∀h∈s.heads,h<0->P (-1-h))(N:List Int)(hN:∀v∈N,P v):
 T.nrms (ts.map (T.sub (fun v=>vt (ρ v)))) (N.map ρ)=((T.nrms ts N).1,(T.nrms ts N).2.map ρ)/\∀v∈(T.nrms ts N).2,P v:=by
 match ts with
 |[]=>exact⟨rfl,hN⟩
 |t::ts=>
  obtain⟨h1,h2⟩:=T.nrm_ren ρ P hinj hpos t (hg t (by simp)) (hP t (by simp)) N hN;obtain⟨h3,h4⟩:=T.nrms_ren ρ P hinj hpos ts (fun s hs=>hg s (by simp[hs])) (fun s hs=>hP s (by simp[hs])) (t.nrm N).2 h2;rw[List.map_cons,T.nrms,T.nrms,h1];simp only;rw[h3];exact⟨rfl,h4⟩
end
theorem apE{L E:List Int}{v:Int}(h:v∈L):ix (L++E) v=ix L v:=by
 unfold ix;rw[List.idxOf_append,if_pos h]
mutual
theorem T.nrm_sub(t:T)(hg:bad (T.subs 1 t)=false)(N:List Int):(∃E,(t.nrm N).2=N++E)/\(∀v,v∈(t.nrm N).2↔v∈N\/v∈ajj t)/\∀E,(t.nrm N).1=t.sub (fun v=>vt (ix ((t.nrm N).2++E) v)):=by
 match t with
 | .node h ts=>
   by_cases q:h<0
   ·rw[T.nrm_neg (t:= .node h ts) q];simp only[T.head];refine⟨?_,fun v=> ?_,fun E=> ?_⟩
    ·unfold aat;split
     ·exact⟨[],by simp⟩
     ·exact⟨_,rfl⟩
    ·rw[adJ,an1 hg q];simp[T.head]
    ·rw[T.sub_neg (t:= .node h ts) q];simp only[T.head];rw[apE (adJ.2 (.inr rfl))];rfl
   ·rw[T.nrm_pos (t:= .node h ts) q];simp only[T.head,T.args];have hgs:∀s∈ts,bad (T.subs 1 s)=false:=fun s hs=>by obtain⟨i,hi⟩:=au hs;exact aaA (t:= .node h ts) hg hi
    obtain⟨h1,h2,h3⟩:=T.nrms_sub ts hgs N;refine⟨h1,fun v=> ?_,fun E=> ?_⟩
    ·rw[h2,an2 (t:= .node h ts) q];simp[T.args]
    ·rw[T.sub_pos (t:= .node h ts) q];simp only[T.head,T.args];rw[h3 E]
theorem T.nrms_sub(ts:List T)(hg:∀s∈ts,bad (T.subs 1 s)=false)(N:List Int):(∃E,(T.nrms ts N).2=N++E)/\(∀v,v∈(T.nrms ts N).2↔v∈N\/∃s∈ts,v∈ajj s)/\∀E,(T.nrms ts N).1=ts.map (T.sub (fun v=>vt (ix ((T.nrms ts N).2++E) v))):=by
 match ts with
 |[]=>exact⟨⟨[],by simp[T.nrms]⟩,by simp[T.nrms],by simp[T.nrms]⟩
 |t::ts=>
  obtain⟨⟨E1,a1⟩,a2,a3⟩:=T.nrm_sub t (hg t (by simp)) N;obtain⟨⟨E2,b1⟩,b2,b3⟩:=T.nrms_sub ts (fun s hs=>hg s (by simp[hs])) (t.nrm N).2;simp only[T.nrms];refine⟨⟨E1++E2,by rw[b1,a1,List.append_assoc]⟩,fun v=> ?_,fun E=> ?_⟩
  ·rw[b2,a2];simp[or_assoc]
  ·rw[List.map_cons,←b3 E]
   congr 1
   rw[b1,List.append_assoc];exact a3 (E2++E)
end
end Go.Proofs.YtabfapijgfjflaaGreat
