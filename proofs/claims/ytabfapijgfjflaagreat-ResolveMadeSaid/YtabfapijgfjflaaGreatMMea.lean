import Derived.Test.YtabfapijgfjflaaGreatMQBr
import Derived.Laws.EntriesVeiled
import Derived.Test.YtabfapijgfjflaaGreatMAl
set_option linter.unusedVariables false
set_option linter.unusedSimpArgs false
set_option maxRecDepth 100000
set_option maxHeartbeats 8000000
namespace Go.Proofs.YtabfapijgfjflaaGreat
open Go.RowKit Go.Maps
abbrev Kn:=Int->Option (Int×Int)
def ahi(m:Int×Int):Value:= .agg #[.int .i64 m.1,.int .i64 m.2]
def alh(K:Kn)(v:Int):Option Value:=(K v).map ahi
theorem arf(K:Kn)(x:Int)(m:Int×Int):alh (upd K x m)=upd (alh K) x (ahi m):=by
 funext v
 unfold alh upd;split<;>rfl
theorem atw(w:World):(zeroValue 194).run Tryz.prog w= .ok (ahi (0,0)) w:=by kernel_rfl
def ofL(f:List SyU->Kn->Int->Option ((Int×Int)×List SyU×Kn)):List Int->Int×Int->List SyU->Kn->Option (Bool×(Int×Int)×List SyU×Kn)
 |[],wh,S,K=>some (false,wh,S,K)
 |a::as_,wh,S,K=>
  match f S K a with
  |none=>none
  |some (p,S',K')=>if p.1=0 then some (true,p,S',K') else if 1000000<p.2 then none else ofL f as_ (min (wh.1+p.1) 401,max wh.2 (1+p.2)) S' K'
def ofF(R:Int->Int):Nat->List SyU->Kn->Int->Option ((Int×Int)×List SyU×Kn)
 |0,_,_,_=>none
 |f+1,S,K,v=>
  match K (R v) with
  |some m=>some (m,S,K)
  |none=>
   match ofL (ofF R f) (aac S (R v)).2 (1,1) (aac S (R v)).1 (upd K (R v) (0,0)) with
   |none=>none
   |some (true,p,S',K')=>some (p,S',K')
   |some (false,wh,S',K')=>some (wh,S',upd K' (R v) wh)
def KOk(S:List SyU)(K:Kn)(n:Nat):Prop:=
 ∃ks:List Int,ks.Nodup/\ks.length=n/\(∀v,v∈ks↔(K v).isSome=true)/\(∀v∈ks,0<=v/\v<256+S.length)/\∀v m,K v=some m->(0<=m.1/\m.1<=401)/\(0<=m.2/\m.2<=2000000)
theorem KOk.le{S:List SyU}{K:Kn}{n:Nat}(h:KOk S K n):n<=256+S.length:=by
 obtain⟨ks,h1,h2,h3,h4,h5⟩:=h;rw[←h2];exact afQ _ ks h1 (fun z hz=>by have:=h4 z hz;omega)
theorem KOk.mono{S S':List SyU}{K:Kn}{n:Nat}(h:KOk S K n)(hl:S.length<=S'.length):KOk S' K n:=by
 obtain⟨ks,h1,h2,h3,h4,h5⟩:=h;exact⟨ks,h1,h2,h3,fun v hv=>by have:=h4 v hv;omega,h5⟩
theorem KOk.put{S:List SyU}{K:Kn}{n:Nat}(h:KOk S K n){r:Int}(h0:0<=r)(h1:r<256+S.length){m:Int×Int}(hm:(0<=m.1/\m.1<=401)/\(0<=m.2/\m.2<=2000000)):KOk S (upd K r m) (if(alh K r).isSome then n else n+1):=by
 obtain⟨ks,k1,k2,k3,k4,k5⟩:=h
 have hk5:∀v x,upd K r m v=some x->(0<=x.1/\x.1<=401)/\(0<=x.2/\x.2<=2000000):=fun v x hx=>by
  unfold upd at hx;split at hx
  ·cases hx;exact hm
  ·exact k5 v x hx
 have hs:(alh K r).isSome=(K r).isSome:=by unfold alh;cases K r<;>rfl
 rw[hs];cases hr:(K r).isSome
 ·have hn:r∉ks:=fun e=>by rw[k3,hr] at e;cases e
  refine⟨r::ks,List.nodup_cons.2 ⟨hn,k1⟩,by simp[k2],fun v=> ?_,fun v hv=> ?_,hk5⟩
  ·rw[List.mem_cons,k3];unfold upd;split
   ·simp_all
   ·simp_all
  ·rcases List.mem_cons.1 hv with rfl|hv
   ·exact⟨h0,h1⟩
   ·exact k4 v hv
 ·refine⟨ks,k1,by simpa using k2,fun v=> ?_,k4,hk5⟩;rw[k3];unfold upd;split
  ·subst_vars;simp[hr]
  ·rfl
abbrev ofFn(b1 b4 b5:Nat):Value:= .func (.func 190) #[] #[.pointer (some ⟨b1,0,none⟩),.pointer (some ⟨b4,0,none⟩),.pointer (some ⟨b5,0,none⟩)]
def Cap(g Mk b1 b4 b5:Nat)(W:World):Prop:=
 W.heap[b1]? =some (.cells #[.pointer (some ⟨g,0,none⟩)] 213 (0,0))/\W.heap[b4]? =some (.cells #[.map (some Mk)] 225 (0,0))/\W.heap[b5]? =some (.cells #[ofFn b1 b4 b5] 226 (0,0))
structure afk (B aM g Mk b1 b4 b5:Nat) (mv vv:Value) (n:Nat) (R:Int->Int) (vars:List Int) (W:World) (sv:Value) (S:List SyU) (nk:Nat) (K:Kn):Prop where
 gr:IsG B W.heap.size aM g W sv mv vv S n R vars
 base:B<=W.heap.size
 map:ahm W Mk nk (alh K)
 cap:Cap g Mk b1 b4 b5 W
 ne:Value.mapBlock mv≠some Mk
 mkn:aM<=Mk
 ok:GOk S R
 kok:KOk S K nk
structure aa6 (g Mk:Nat) (mv vv:Value) (sv:Value) (w:World) (sv':Value) (w':World):Prop where
 os:w'.os=w.os
 tape:w'.tape=w.tape
 output:w'.output=w.output
 size:w.heap.size<=w'.heap.size
 block:∀i,i<w.heap.size->¬afX g sv mv vv i->i≠Mk->w'.heap[i]? =w.heap[i]?
 own:∀i,i<w.heap.size->afX g sv' mv vv i->afX g sv mv vv i
theorem aa6.refl(g Mk:Nat)(mv vv sv:Value)(w:World):aa6 g Mk mv vv sv w sv w:=⟨rfl,rfl,rfl,af _,fun _ _ _ _=>rfl,fun _ _ h=>h⟩
theorem aa6.trans{g Mk:Nat}{mv vv sv sv' sv'':Value}{w w' w'':World}(h:aa6 g Mk mv vv sv w sv' w')(k:aa6 g Mk mv vv sv' w' sv'' w''):aa6 g Mk mv vv sv w sv'' w'':=
 ⟨k.os.trans h.os,k.tape.trans h.tape,k.output.trans h.output,aE h.size k.size,fun i hi hn hm=>(k.block i (aF hi h.size) (fun e=>hn (h.own i hi e)) hm).trans (h.block i hi hn hm),fun i hi e=>h.own i hi (k.own i (aF hi h.size) e)⟩
theorem aa6.ofG{g Mk:Nat}{mv vv sv sv':Value}{w w':World}(h:GStep g sv mv vv w sv' mv vv w'):aa6 g Mk mv vv sv w sv' w':=⟨h.os,h.tape,h.output,h.size,fun i hi hn _=>h.block i hi hn,h.own⟩
section
variable {B aM g Mk b1 b4 b5:Nat} {mv vv:Value} {n:Nat} {R:Int->Int} {vars:List Int} {W:World} {sv:Value} {S:List SyU} {nk:Nat} {K:Kn}
theorem ahm.obj{f:Int->Option Value}{M k:Nat}(h:ahm W M k f):∃es c,W.heap[M]? =some (.map es c):=by
 obtain⟨D,⟨es,clock,hb,_⟩,_⟩:=h;exact⟨es,clock,hb⟩
theorem afk.mk_not(h:afk B aM g Mk b1 b4 b5 mv vv n R vars W sv S nk K):¬afX g sv mv vv Mk:=fun e=>by
 obtain⟨es,c,hc⟩:=h.map.obj
 rcases e with rfl|e|e|e
 ·rw[h.gr.heap] at hc;cases hc
 ·obtain⟨ys,r1,_⟩:=h.gr.rows;obtain⟨_,_,c',hc'⟩:=rowBlock r1 e;rw[hc'] at hc;cases hc
 ·exact h.ne e
 ·obtain⟨_,_,c',hc'⟩:=rowBlock h.gr.vrow e;rw[hc'] at hc;cases hc
theorem aiL(hG:IsG B W.heap.size aM g W sv mv vv S n R vars){b:Nat}{cs:Array Value}{t:TypeId}(hb:W.heap[b]? =some (.cells cs t (0,0)))(h1:t≠183)(h2:t≠221)(h3:t≠185):¬afX g sv mv vv b:=fun e=>by
 rcases e with rfl|e|e|e
 ·rw[hG.heap] at hb;simp only[aJ,Obj.cells.injEq] at hb;exact h1 hb.2.1.symm
 ·obtain⟨ys,r1,_⟩:=hG.rows;obtain⟨_,_,c',hc'⟩:=rowBlock r1 e;rw[hc'] at hb;simp only[aJ,Obj.cells.injEq] at hb;exact h2 hb.2.1.symm
 ·obtain⟨_,_,es,cl,hc'⟩:=hG.links.map_block e;rw[hc'] at hb;cases hb
 ·obtain⟨_,_,c',hc'⟩:=rowBlock hG.vrow e;rw[hc'] at hb;simp only[aJ,Obj.cells.injEq] at hb;exact h3 hb.2.1.symm
theorem Cap.step(hc:Cap g Mk b1 b4 b5 W)(hG:IsG B W.heap.size aM g W sv mv vv S n R vars)(hM:∃es c,W.heap[Mk]? =some (.map es c)){sv':Value}{W':World}(st:aa6 g Mk mv vv sv W sv' W'):Cap g Mk b1 b4 b5 W':=by
 obtain⟨c1,c2,c3⟩:=hc;obtain⟨es,c,hm⟩:=hM
 have hb:∀(b:Nat) (cs:Array Value) (t:TypeId),W.heap[b]? =some (Obj.cells cs t (0,0))->t≠183->t≠221->t≠185->W'.heap[b]? =W.heap[b]? :=fun b cs t hb h1 h2 h3=>
  st.block b (aj.1 hb).1 (aiL hG hb h1 h2 h3) (fun e=>by subst e;rw[hm] at hb;cases hb)
 exact⟨(hb _ _ _ c1 (by decide) (by decide) (by decide)).trans c1,(hb _ _ _ c2 (by decide) (by decide) (by decide)).trans c2,(hb _ _ _ c3 (by decide) (by decide) (by decide)).trans c3⟩
theorem afk.ofG(h:afk B aM g Mk b1 b4 b5 mv vv n R vars W sv S nk K){sv':Value}{S':List SyU}{W':World}(hG':IsG B W'.heap.size aM g W' sv' mv vv S' n R vars)(st:GStep g sv mv vv W sv' mv vv W')(hok:GOk S' R)(hl:S.length<=S'.length):afk B aM g Mk b1 b4 b5 mv vv n R vars W' sv' S' nk K:=
 ⟨hG',aE h.base st.size,h.map.kept (st.block Mk h.map.lt h.mk_not),h.cap.step h.gr h.map.obj (aa6.ofG st),h.ne,h.mkn,hok,h.kok.mono hl⟩
theorem afk.later(h:afk B aM g Mk b1 b4 b5 mv vv n R vars W sv S nk K){W':World}(hb:Below W.heap.size W W'):afk B aM g Mk b1 b4 b5 mv vv n R vars W' sv S nk K:=
 h.ofG ((h.gr.later hb h.base).mono hb.size) (GStep.later hb) h.ok (af _)
theorem afk.put(h:afk B aM g Mk b1 b4 b5 mv vv n R vars W sv S nk K){r:Int}(h0:0<=r)(h1:r<256+S.length){m:Int×Int}(hm:(0<=m.1/\m.1<=401)/\(0<=m.2/\m.2<=2000000)):
 ∃w',(Instr.mapUpdate 225 (.map (some Mk)) (.int .i64 r) (ahi m)).run Tryz.prog W= .ok () w'/\afk B aM g Mk b1 b4 b5 mv vv n R vars w' sv S (if(alh K r).isSome then nk else nk+1) (upd K r m)/\aa6 g Mk mv vv sv W sv w':=by
 have hl:=h.ok.len;have hk:=h.kok.le;obtain⟨w',hrun,hM',hg⟩:=h.map.put Tryz.underlying225 (v:=r) ⟨by omega,by omega⟩ (ahi m) (by omega);have hne:∀i,i<W.heap.size->i≠Mk->w'.heap[i]? =W.heap[i]? :=fun i hi hn=>hg.block i hi (fun e=>hn (Option.some.inj e));have st:aa6 g Mk mv vv sv W sv w':=⟨hg.os,hg.tape,hg.output,hg.size,fun i hi _ hn=>hne i hi hn,fun _ _ e=>e⟩;refine⟨w',hrun,⟨?_,aE h.base hg.size,by rw[arf];exact hM',h.cap.step h.gr h.map.obj st,h.ne,h.mkn,h.ok,h.kok.put h0 h1 hm⟩,st⟩;refine(h.gr.keptBut fun i hi=>hne i ?_ ?_).mono hg.size
 ·rcases hi with hi|hi|hi
  ·have:=h.gr.low;have:=h.base;omega
  ·exact h.gr.own_lt hi
  ·exact hi.lt
 ·rintro rfl
  rcases hi with hi|hi|hi
  ·have:=h.mkn;omega
  ·exact h.mk_not hi
  ·obtain⟨es,c,hc⟩:=h.map.obj;obtain⟨_,_,_,cur,hc'⟩:=hi;rw[hc'] at hc;cases hc
end
section
variable {B aM g Mk b1 b4 b5:Nat} {mv vv:Value} {n:Nat} {R:Int->Int} {vars:List Int} {W:World} {sv:Value} {S:List SyU} {nk:Nat} {K:Kn}
theorem afk.setVar(h:afk B aM g Mk b1 b4 b5 mv vv n R vars W sv S nk K){rb o:Nat}{cs:Array Value}(hrb:W.heap[rb]? =some (.cells cs 194 (0,0)))(hn:aM<=rb)(u:Value):afk B aM g Mk b1 b4 b5 mv vv n R vars (W.setCell ⟨rb,o,none⟩ u) sv S nk K:=by
 have hne:∀i,i≠rb->(W.setCell ⟨rb,o,none⟩ u).heap[i]? =W.heap[i]? :=fun i hi=>an _ _ _ _ hi;have hno:=aiL h.gr hrb (by decide) (by decide) (by decide)
 have hM:Mk≠rb:=fun e=>by
  obtain⟨es,c,hc⟩:=h.map.obj;rw[e,hrb] at hc;cases hc
 obtain⟨c1,c2,c3⟩:=h.cap
 have hb:∀(b:Nat) (cs':Array Value) (t:TypeId),W.heap[b]? =some (Obj.cells cs' t (0,0))->t≠194->b≠rb:=fun b cs' t hb ht e=>by
  subst e;rw[hrb] at hb;simp only[aJ,Obj.cells.injEq] at hb;exact ht hb.2.1.symm
 refine⟨?_,by simpa using h.base,h.map.kept (hne Mk hM),⟨(hne _ (hb _ _ _ c1 (by decide))).trans c1,(hne _ (hb _ _ _ c2 (by decide))).trans c2,(hne _ (hb _ _ _ c3 (by decide))).trans c3⟩,h.ne,h.mkn,h.ok,h.kok⟩
 have:=h.gr.keptBut (W':=W.setCell ⟨rb,o,none⟩ u) (fun i hi=>hne i (by
  rintro rfl
  rcases hi with hi|hi|hi
  ·omega
  ·exact hno hi
  ·obtain⟨_,_,_,cur,hc⟩:=hi;exact hb _ _ _ hc (by decide) rfl))
 exact this.mono (by simp)
theorem aa6.setVar{g Mk:Nat}{mv vv sv sv':Value}{w W:World}(h:aa6 g Mk mv vv sv w sv' W){rb o:Nat}(hrb:w.heap.size<=rb)(u:Value):aa6 g Mk mv vv sv w sv' (W.setCell ⟨rb,o,none⟩ u):=
 ⟨h.os,h.tape,h.output,by simpa using h.size,fun i hi hn hm=>(an _ _ _ _ (show i≠rb by omega)).trans (h.block i hi hn hm),h.own⟩
theorem afk.varStep(h:afk B aM g Mk b1 b4 b5 mv vv n R vars W sv S nk K){rb:Nat}{cs:Array Value}(hrb:W.heap[rb]? =some (.cells cs 194 (0,0))){sv':Value}{W':World}(st:aa6 g Mk mv vv sv W sv' W'):W'.heap[rb]? =some (.cells cs 194 (0,0)):=
 (st.block rb (aj.1 hrb).1 (aiL h.gr hrb (by decide) (by decide) (by decide)) (fun e=>by
  obtain⟨es,c,hc⟩:=h.map.obj;rw[←e,hrb] at hc;cases hc)).trans hrb
theorem afk.argStep(h:afk B aM g Mk b1 b4 b5 mv vv n R vars W sv S nk K){as_:List Int}{r:Value}(ha:ab3 B W.heap.size W vv as_ r){sv':Value}{W':World}(st:aa6 g Mk mv vv sv W sv' W'):ab3 B W'.heap.size W' vv as_ r:=
 (ha.keep (fun b hb=>⟨st.block b hb.lt (h.gr.node_not hb) (fun e=>by
  obtain⟨es,c,hc⟩:=h.map.obj;obtain⟨_,_,_,cur,hc'⟩:=hb;rw[←e,hc'] at hc;cases hc),hb.2.2.1⟩)).mono st.size
theorem ab3.var{as_:List Int}{r:Value}(ha:ab3 B W.heap.size W vv as_ r){rb o:Nat}{cs:Array Value}(hrb:W.heap[rb]? =some (.cells cs 194 (0,0)))(u:Value):ab3 B (W.setCell ⟨rb,o,none⟩ u).heap.size (W.setCell ⟨rb,o,none⟩ u) vv as_ r:=
 (ha.keep (fun b hb=>⟨an _ _ _ _ (fun e=>by
  obtain⟨_,_,_,cur,hc'⟩:=hb;subst e;rw[hrb] at hc';simp at hc'),hb.2.2.1⟩)).mono (by simp)
theorem aa6.later{g Mk:Nat}{mv vv sv:Value}{w w':World}(hb:Below w.heap.size w w'):aa6 g Mk mv vv sv w sv w':=⟨hb.os,hb.tape,hb.output,hb.size,fun i hi _ _=>hb.block i hi,fun _ _ h=>h⟩
end
def okM(m:Int×Int):Prop:=(0<=m.1/\m.1<=401)/\(0<=m.2/\m.2<=2000000)
def aiM(B aM g Mk b1 b4 b5:Nat)(mv vv:Value)(n:Nat)(R:Int->Int)(vars:List Int)(sv:Value)(S:List SyU)(m:Int×Int)(S':List SyU)(K':Kn)(w:World)(e:Ending)(w':World):Prop:=
 e= .returned (ahi m)/\okM m/\S.length<=S'.length/\∃sv' nk',afk B aM g Mk b1 b4 b5 mv vv n R vars w' sv' S' nk' K'/\aa6 g Mk mv vv sv w sv' w'
def awH(B aM g Mk b1 b4 b5:Nat)(mv vv:Value)(n:Nat)(R:Int->Int)(vars:List Int)(sv:Value)(f:Nat)(as_:List Int)(r1:Value)(X:Option (Bool×(Int×Int)×List SyU×Kn))(rb wb:Nat)(N1:Nat)(w:World)(i:Value)(wr:World):Prop:=
 ∃(k:Nat) (sv':Value) (nk':Nat) (S':List SyU) (K':Kn) (wh:Int×Int),k<=as_.length/\i= .int .i64 k/\afk B aM g Mk b1 b4 b5 mv vv n R vars wr sv' S' nk' K'/\aa6 g Mk mv vv sv w sv' wr/\wr.heap[wb]? =some (.cells #[.int .i64 wh.1,.int .i64 wh.2] 194 (0,0))/\wr.heap[rb]? =some (.cells #[.int .i64 0,.int .i64 0] 194 (0,0))/\
  ab3 B wr.heap.size wr vv as_ r1/\ofL (ofF R f) (as_.drop k) wh S' K'=X/\(1<=wh.1/\wh.1<=401)/\(1<=wh.2/\wh.2<=1000001)/\N1<=S'.length
theorem atx(B aM g Mk b1 b4 b5:Nat)(mv vv:Value)(n:Nat)(R:Int->Int)(vars:List Int)(hn:n<=100000):∀(f:Nat) (S:List SyU) (K:Kn) (v:Int) (m:Int×Int) (S':List SyU) (K':Kn),ofF R f S K v=some (m,S',K')->
 ∀(sv:Value) (nk:Nat) (w:World),afk B aM g Mk b1 b4 b5 mv vv n R vars w sv S nk K->0<=v->v<256+S.length->
 Calls Tryz.prog 190 #[.int .i64 v,.pointer (some ⟨b1,0,none⟩),.pointer (some ⟨b4,0,none⟩),.pointer (some ⟨b5,0,none⟩)] w (aiM B aM g Mk b1 b4 b5 mv vv n R vars sv S m S' K' w):=by
 intro f
 induction f with
 |zero=>intro S K v m S' K' h;simp[ofF] at h
 |succ f ih=>
  intro S K v m S' K' hof sv nk w hM hv0 hv1;have IH:=ae ih;have hsl:=hM.ok.len;have hB:=hM.base;have hn0:aM<=w.heap.size:=aE hM.gr.low hB;obtain⟨w1,hw1⟩:∃w1,w.alloc (.cells #[.int .i64 0,.int .i64 0] 194)=w1:=⟨_,rfl⟩;have hb1:Below w.heap.size w w1:=by rw[←hw1];exact(ag _ _).alloc (af _) _
  have hz1:w1.heap.size=w.heap.size+1:=by rw[←hw1];simp
  have hrb1:w1.heap[w.heap.size]? =some (.cells #[.int .i64 0,.int .i64 0] 194 (0,0)):=by rw[←hw1];exact heap_alloc_new w _
  have hM1:=hM.later hb1;have hgl:=hM1.gr.lt;have hg1:w1.cell? ⟨g,1,none⟩=some mv:=by simp[World.cell?,hM1.gr.heap]
  have CE:=ae (amj B g 1 n mv R v ⟨by omega,by omega⟩ (by omega) w1 hg1 hM1.gr.links hM1.gr.mv_ne);obtain⟨c1,c2,c3⟩:=id hM1.cap;have k1:w1.cell? ⟨b1,0,none⟩=some (.pointer (some ⟨g,0,none⟩)):=by simp[World.cell?,c1]
  have hb1l:b1<w1.heap.size:=(aj.1 c1).1;obtain⟨r,hr⟩:∃r,R v=r:=⟨_,rfl⟩;have hrv:=hM.ok.root hv0 hv1;rw[hr] at hrv;have HM1:=ae hM1;have HST1:=ae (show aa6 g Mk mv vv sv w sv w1 from aa6.later hb1);have HRB1:=ae hrb1;have HZ1:=ae hz1;have HOF:=ae hof;have HRR:=ae hr;obtain⟨rb,hrbe⟩:∃rb,w.heap.size=rb:=⟨_,rfl⟩;rw[hrbe] at HRB1 HZ1;clear hof hM hM1 hb1 hz1 hrb1 c1 c2 c3 ih hr hg1;go_enter Tryz.func190,Tryz.ntmps190
  go_wp2_with fail
  refine CE.out.mono ?_;rintro e w2 ⟨rfl,hl2,hg2⟩;rw[HRR.out];have hGS:GStep g sv mv vv w1 sv mv vv w2:=⟨hg2.os,hg2.tape,hg2.output,hg2.size,fun i hi hn=>hg2.block i hi (fun e=>hn (.inr (.inr (.inl e.symm)))),fun _ _ h=>h⟩;have hmg:=HM1.out.gr.mv_ne;have hB1:=HM1.out.base;have hG2:IsG B w2.heap.size aM g w2 sv mv vv S n R vars:=(HM1.out.gr.afterBind hB1 ((hg2.block g hgl (fun e=>hmg e.symm)).trans HM1.out.gr.heap) hl2 (fun i h1 _ h3=>hg2.block i h1 (fun e=>h3 e.symm))).mono hg2.size;have hM2:=HM1.out.ofG hG2 hGS HM1.out.ok (af _);have hrb2:=HM1.out.varStep HRB1.out (aa6.ofG hGS);have hst2:=HST1.out.trans (aa6.ofG hGS);have hlk:=(hM2.map.look Tryz.underlying225 (atw w2) (v:=r) ⟨by omega,by omega⟩).1;obtain⟨c1,c2,c3⟩:=id hM2.cap;have k2:w2.cell? ⟨b4,0,none⟩=some (.map (some Mk)):=by simp[World.cell?,c2]
  have hb4l:b4<w2.heap.size:=(aj.1 c2).1;have hof:=HOF.out;rw[ofF,HRR.out] at hof;have HM2:=ae hM2;have HST2:=ae hst2;have HRB2:=ae hrb2;clear hl2 hg2 hGS hG2 hM2 hst2 hrb2 c1 c2 c3 k1;cases hK:K r with
  |some m0=>
   rw[hK] at hof;simp only[aJ,Prod.mk.injEq] at hof;obtain⟨rfl,rfl,rfl⟩:=hof;have hkv:alh K r=some (ahi m0):=by unfold alh;rw[hK];rfl
   rw[hkv] at hlk;simp only[Option.getD_some,Option.isSome_some,ahi] at hlk
   have hok0:okM m0:=by
    obtain⟨ks,_,_,_,_,h5⟩:=HM2.out.kok;exact h5 r m0 hK
   have hz2:=HST2.out.size;obtain⟨w3,hw3⟩:∃w3,w2.alloc (.cells #[.int .i64 m0.1,.int .i64 m0.2] 194)=w3:=⟨_,rfl⟩;have hb3:Below w2.heap.size w2 w3:=by rw[←hw3];exact(ag _ _).alloc (af _) _
   have hrb3:w3.heap[rb]? =some (.cells #[.int .i64 0,.int .i64 0] 194 (0,0)):=(hb3.block rb (aj.1 HRB2.out).1).trans HRB2.out;have d0:w3.cell? ⟨w2.heap.size,0,none⟩=some (.int .i64 m0.1):=by rw[←hw3];simp[go_sem]
   have d1:w3.cell? ⟨w2.heap.size,1,none⟩=some (.int .i64 m0.2):=by rw[←hw3];simp[go_sem]
   have r0:w3.cell? ⟨rb,0,none⟩=some (.int .i64 0):=by simp[World.cell?,hrb3]
   have r1:w3.cell? ⟨rb,1,none⟩=some (.int .i64 0):=by simp[World.cell?,hrb3]
   have f0:w3.frozen? ⟨rb,0,none⟩=false:=by simp[World.frozen?,hrb3]
   have f1:w3.frozen? ⟨rb,1,none⟩=false:=by simp[World.frozen?,hrb3]
   have hM4:afk B aM g Mk b1 b4 b5 mv vv n R vars ((w3.setCell ⟨rb,0,none⟩ (.int .i64 m0.1)).setCell ⟨rb,1,none⟩ (.int .i64 m0.2)) sv S nk K:=((HM2.out.later hb3).setVar hrb3 (by omega) _).setVar (heap_setCell_same hrb3 _) (by omega) _;have hst4:aa6 g Mk mv vv sv w sv ((w3.setCell ⟨rb,0,none⟩ (.int .i64 m0.1)).setCell ⟨rb,1,none⟩ (.int .i64 m0.2)):=((HST2.out.trans (aa6.later hb3)).setVar (by omega) _).setVar (by omega) _;have HP:=ae (show aiM B aM g Mk b1 b4 b5 mv vv n R vars sv S m0 S K w (.returned (ahi m0)) _ from⟨rfl,hok0,af _,sv,nk,hM4,hst4⟩);clear hM4 hst4 hrb3 hb3 hkv hK hok0;go_wp2;refine bodyPost_ret (v:=ahi m0) (by simp[results,Tryz.results190,go_sem,r0,r1,ahi]) rfl ?_;exact HP.out
  |none=>
   rw[hK] at hof;simp only at hof;have hkv:alh K r=none:=by unfold alh;rw[hK];rfl
   rw[hkv] at hlk;simp only[Option.getD_none,Option.isSome_none,ahi] at hlk;have hz2:=HST2.out.size;obtain⟨w3,hw3⟩:∃w3,w2.alloc (.cells #[.int .i64 0,.int .i64 0] 194)=w3:=⟨_,rfl⟩;have hb3:Below w2.heap.size w2 w3:=by rw[←hw3];exact(ag _ _).alloc (af _) _
   have hM3:=HM2.out.later hb3;have hrb3:w3.heap[rb]? =some (.cells #[.int .i64 0,.int .i64 0] 194 (0,0)):=(hb3.block rb (aj.1 HRB2.out).1).trans HRB2.out;obtain⟨c1,c2,c3⟩:=id hM3.cap;have k3:w3.cell? ⟨b4,0,none⟩=some (.map (some Mk)):=by simp[World.cell?,c2]
   obtain⟨w4,hup4,hM4,hst4⟩:=hM3.put hrv.1 hrv.2 (m:=(0,0)) ⟨⟨by omega,by omega⟩,by omega,by omega⟩;simp only[ahi] at hup4;rw[hkv] at hM4;have hrb4:=hM3.varStep hrb3 hst4;have hst04:=(HST2.out.trans (aa6.later hb3)).trans hst4;obtain⟨w5,hw5⟩:∃w5,w4.alloc (.cells #[.int .i64 1,.int .i64 1] 194)=w5:=⟨_,rfl⟩;have hb5:Below w4.heap.size w4 w5:=by rw[←hw5];exact(ag _ _).alloc (af _) _
   have hwb5:w5.heap[w4.heap.size]? =some (.cells #[.int .i64 1,.int .i64 1] 194 (0,0)):=by rw[←hw5];exact heap_alloc_new w4 _
   have hM5:=hM4.later hb5;have hrb5:=hM4.varStep hrb4 (aa6.later hb5);have hst05:=hst04.trans (aa6.later hb5);obtain⟨c1',c2',c3'⟩:=id hM5.cap;have k5:w5.cell? ⟨b1,0,none⟩=some (.pointer (some ⟨g,0,none⟩)):=by simp[World.cell?,c1']
   have CX:=ae (af0 B aM g sv mv vv S n R vars r w5 hM5.base hM5.gr (by omega) hrv.1 hrv.2 (fun x hx=>aE (abh _) (hM5.ok.sz x hx)));obtain⟨wb,hwb⟩:∃wb,w4.heap.size=wb:=⟨_,rfl⟩;rw[hwb] at hwb5;have hwbw:w.heap.size<=wb:=by rw[←hwb];exact hst04.size
   have hrbwb:rb<wb:=by rw[←hwb];exact(aj.1 hrb4).1
   have HWB:=ae hwb;have HALL:=ae (And.intro hM5 (And.intro hst05 (And.intro hwb5 (And.intro hrb5 hM5.ok))));have HOF2:=ae hof;clear hM3 hrb3 c1 c2 c3 hM4 hst4 hrb4 hst04 hb3 hb5 hwb5 hM5 hrb5 hst05 c1' c2' c3' hkv hK hof;subst hw3
   go_wp2_with fail
   refine CX.out.mono ?_;rintro e w6 ⟨r1,sv6,rfl,hG6,hS6,hr6⟩;obtain⟨hM5,hst5,hwb5,hrb5,hok5⟩:=HALL.out;obtain⟨hok6,hl6,hva6⟩:=hok5.args r;have hM6:=hM5.ofG hG6 hS6 hok6 hl6;have hst6:=hst5.trans (aa6.ofG hS6);have hwb6:=hM5.varStep hwb5 (aa6.ofG hS6);have hrb6:=hM5.varStep hrb5 (aa6.ofG hS6);have hl6':=hok6.len;obtain⟨as_,has⟩:∃as_,(aac S r).2=as_:=⟨_,rfl⟩;obtain⟨S6,hS6e⟩:∃S6,(aac S r).1=S6:=⟨_,rfl⟩;have hof2:=HOF2.out;rw[has] at hr6 hva6 hof2;rw[hS6e] at hM6 hva6 hof2 hl6 hl6'
   obtain⟨ra,rc,hrv1,hrc1,hrc2⟩:∃ra rc,r1= .slice ra as_.length rc/\as_.length<=rc/\rc<=maxLen:=by
    rcases hr6 with⟨rfl,rfl⟩|⟨ab,cap,rfl,_,h1,h2,_⟩
    ·exact⟨none,0,rfl,by simp,by simp[maxLen]⟩
    ·exact⟨_,cap,rfl,h1,h2⟩
   subst hrv1;unfold maxLen at hrc2;have HVA:=ae hva6
   have HST:=ae (show awH B aM g Mk b1 b4 b5 mv vv n R vars sv f as_ (.slice ra as_.length rc) (ofL (ofF R f) as_ (1,1) S6 (upd K r (0,0))) rb wb S6.length w (.int .i64 ((0:Nat):Int)) w6 from
    ⟨0,sv6,_,S6,_,(1,1),Nat.zero_le _,rfl,hM6,hst6,hwb6,hrb6,hr6,by simp,⟨by omega,by omega⟩,⟨by omega,by omega⟩,af _⟩)
   have HOF3:=ae hof2;obtain⟨X,hX⟩:∃X,ofL (ofF R f) as_ (1,1) S6 (upd K r (0,0))=X:=⟨_,rfl⟩;rw[hX] at HST HOF3;clear hM5 hst5 hwb5 hrb5 hok5 hok6 hva6 hM6 hst6 hwb6 hrb6 has hS6e hof2 hr6 hX HALL HOF2 hG6 hS6;go_wp2
   go_loopw [33] (fun i wr=>awH B aM g Mk b1 b4 b5 mv vv n R vars sv f as_ (.slice ra as_.length rc) X rb wb S6.length w i wr) (fun i _=>as_.length-(intOf i).toNat)
   case atStart=>exact HST.out
   case round=>
    obtain⟨k,sv',nk',S2,K2,wh,hk,rfl,hMr,hstr,hwbr,hrbr,har,hXr,⟨hwh0,hwh1⟩,⟨hwh2,hwh3⟩,hN⟩:=hrel;have hrbl:rb<wr.heap.size:=(aj.1 hrbr).1;have hwbl:wb<wr.heap.size:=(aj.1 hwbr).1;have hrw:rb≠wb:=by omega
    by_cases hlt:k<as_.length
    ·obtain⟨a,ha⟩:∃a,as_[k]? =some a:=⟨_,ai hlt⟩;obtain⟨hkl,hke⟩:=ah.1 ha;have hav:=HVA.out a (ak ha);rw[aD hkl,hke,ofL] at hXr
     obtain⟨ab,rfl,hck⟩:∃ab,ra=some ⟨ab,0,none⟩/\wr.cell? ⟨ab,k,none⟩=some (.int .i64 a):=by
      rcases id har with⟨rfl,_⟩|⟨ab,cap,h1,_,_,_,h4⟩
      ·simp at hlt
      ·simp only[Value.slice.injEq] at h1;exact⟨ab,h1.1,h4 k a ha⟩
     have hk0:(0:Int)<=(k:Int):=aw _;have hk1:(k:Int)<(as_.length:Int):=by omega
     obtain⟨c1,c2,c3⟩:=id hMr.cap;have k5':wr.cell? ⟨b5,0,none⟩=some (ofFn b1 b4 b5):=by simp[World.cell?,c3]
     cases hf:ofF R f S2 K2 a with
     |none=>
      rw[hf] at hXr;have:=HOF3.out;rw[←hXr] at this;cases this
     |some z=>
      obtain⟨p,S3,K3⟩:=z;rw[hf] at hXr;simp only at hXr;have CI:=ae (IH.out S2 K2 a p S3 K3 hf sv' nk' wr hMr hav.1 (by omega));have HALL:=ae (And.intro hMr (And.intro hstr (And.intro hwbr (And.intro hrbr har))));have HXR:=ae hXr;clear hMr hstr hwbr hrbr har hXr ha c1 c2 c3 hf
      go_wp2_with fail
      refine CI.out.mono ?_;rintro e w7 ⟨rfl,⟨⟨hp0,hp1⟩,hp2,hp3⟩,hSl7,sv7,nk7,hM7,hst7⟩;obtain⟨hMr,hstr,hwbr,hrbr,har⟩:=HALL.out;have hwb7:=hMr.varStep hwbr hst7;have hrb7:=hMr.varStep hrbr hst7;have har7:=hMr.argStep har hst7;have hst07:=hstr.trans hst7;obtain⟨p1,p2⟩:=p;simp only at hp0 hp1 hp2 hp3;simp only[ahi];obtain⟨w8,hw8⟩:∃w8,w7.alloc (.cells #[.int .i64 p1,.int .i64 p2] 194)=w8:=⟨_,rfl⟩;have hb8:Below w7.heap.size w7 w8:=by rw[←hw8];exact(ag _ _).alloc (af _) _
      have d0:w8.cell? ⟨w7.heap.size,0,none⟩=some (.int .i64 p1):=by rw[←hw8];simp[go_sem]
      have d1:w8.cell? ⟨w7.heap.size,1,none⟩=some (.int .i64 p2):=by rw[←hw8];simp[go_sem]
      have hM8:=hM7.later hb8;have hwb8:=hM7.varStep hwb7 (aa6.later hb8);have hrb8:=hM7.varStep hrb7 (aa6.later hb8);have har8:=hM7.argStep har7 (aa6.later hb8);have hst08:=hst07.trans (aa6.later hb8);have hXr:=HXR.out;simp only at hXr;by_cases hp:p1=0
      ·subst hp;rw[if_pos rfl] at hXr;have r0:w8.cell? ⟨rb,0,none⟩=some (.int .i64 0):=by simp[World.cell?,hrb8]
       have r1:w8.cell? ⟨rb,1,none⟩=some (.int .i64 0):=by simp[World.cell?,hrb8]
       have f0:w8.frozen? ⟨rb,0,none⟩=false:=by simp[World.frozen?,hrb8]
       have f1:w8.frozen? ⟨rb,1,none⟩=false:=by simp[World.frozen?,hrb8]
       have hres:=HOF3.out;rw[←hXr] at hres;simp only[aJ,Prod.mk.injEq] at hres;obtain⟨rfl,rfl,rfl⟩:=hres;have hM9:=(hM8.setVar hrb8 (by omega) (o:=0) (.int .i64 0)).setVar (heap_setCell_same hrb8 _) (by omega) (o:=1) (.int .i64 p2);have hst9:=(hst08.setVar (rb:=rb) (o:=0) (by omega) (.int .i64 0)).setVar (rb:=rb) (o:=1) (by omega) (.int .i64 p2);have HP:=ae (show aiM B aM g Mk b1 b4 b5 mv vv n R vars sv S (0,p2) S3 K3 w (.returned (ahi (0,p2))) _ from⟨rfl,⟨⟨by omega,by omega⟩,hp2,hp3⟩,by omega,sv7,nk7,hM9,hst9⟩);clear hM9 hst9 hM8 hwb8 hrb8 har8 hst08 hM7 hst7 hMr hstr hwbr hrbr har hwb7 hrb7 har7 hst07 hb8 hXr HXR HALL CI;go_wp2;refine bodyPost_ret (v:=ahi (0,p2)) (by simp[results,Tryz.results190,go_sem,r0,r1,ahi]) rfl ?_;exact HP.out
      ·rw[if_neg hp] at hXr;by_cases hbig:1000000<p2
       ·rw[if_pos hbig] at hXr;have:=HOF3.out;rw[←hXr] at this;cases this
       ·rw[if_neg hbig] at hXr;have hpf:(p1==0)=false:=by simpa using hp
        have q0:w8.cell? ⟨wb,0,none⟩=some (.int .i64 wh.1):=by simp[World.cell?,hwb8]
        have q1:w8.cell? ⟨wb,1,none⟩=some (.int .i64 wh.2):=by simp[World.cell?,hwb8]
        have f0:w8.frozen? ⟨wb,0,none⟩=false:=by simp[World.frozen?,hwb8]
        have f1:w8.frozen? ⟨wb,1,none⟩=false:=by simp[World.frozen?,hwb8]
        have hwb8l:wb<w8.heap.size:=(aj.1 hwb8).1
        have FN:=ae (show ∀x y,x=min (wh.1+p1) 401->y=max wh.2 (1+p2)->awH B aM g Mk b1 b4 b5 mv vv n R vars sv f as_ (.slice (some ⟨ab,0,none⟩) as_.length rc) X rb wb S6.length w (.int .i64 ((k:Int)+1)) ((w8.setCell ⟨wb,0,none⟩ (.int .i64 x)).setCell ⟨wb,1,none⟩ (.int .i64 y)) from fun x y hx hy=>by
         have h1:=heap_setCell_same (o:=0) hwb8 (.int .i64 x);have h2:=heap_setCell_same (o:=1) h1 (.int .i64 y);refine⟨k+1,sv7,nk7,S3,K3,(x,y),by omega,by simp,(hM8.setVar hwb8 (by omega) _).setVar h1 (by omega) _,(hst08.setVar (by omega) _).setVar (by omega) _,h2,?_,(har8.var hwb8 _).var h1 _,?_,⟨by simp only;omega,by simp only;omega⟩,⟨by simp only;omega,by simp only;omega⟩,?_⟩
         ·exact((an _ _ _ _ hrw).trans (an _ _ _ _ hrw)).trans hrb8
         ·rw[hx,hy];exact hXr
         ·omega)
        clear hM8 hwb8 hrb8 har8 hst08 hM7 hst7 hMr hstr hwbr hrbr har hwb7 hrb7 har7 hst07 hb8 hXr HXR HALL CI;go_wp2;exact⟨FN.out _ _ (by first|rfl|omega|(split<;>omega)) (by first|rfl|omega|(split<;>omega)),by simp[intOf];omega⟩
    ·obtain rfl:k=as_.length:=by omega
     rw[List.drop_of_length_le (af _),ofL] at hXr;have hres:=HOF3.out;rw[←hXr] at hres;simp only[aJ,Prod.mk.injEq] at hres;obtain⟨rfl,rfl,rfl⟩:=hres;obtain⟨wh1,wh2⟩:=wh;simp only at hwh0 hwh1 hwh2 hwh3 hwbr;obtain⟨w8,hup8,hM8,hst8⟩:=hMr.put (r:=r) hrv.1 (by omega) (m:=(wh1,wh2)) ⟨⟨by simp only;omega,hwh1⟩,by simp only;omega,by simp only;omega⟩;simp only[ahi] at hup8;obtain⟨c1,c2,c3⟩:=id hMr.cap;have k8:wr.cell? ⟨b4,0,none⟩=some (.map (some Mk)):=by simp[World.cell?,c2]
     have q0:wr.cell? ⟨wb,0,none⟩=some (.int .i64 wh1):=by simp[World.cell?,hwbr]
     have q1:wr.cell? ⟨wb,1,none⟩=some (.int .i64 wh2):=by simp[World.cell?,hwbr]
     have hwb8:=hMr.varStep hwbr hst8;have hrb8:=hMr.varStep hrbr hst8;have s0:w8.cell? ⟨wb,0,none⟩=some (.int .i64 wh1):=by simp[World.cell?,hwb8]
     have s1:w8.cell? ⟨wb,1,none⟩=some (.int .i64 wh2):=by simp[World.cell?,hwb8]
     have r0:w8.cell? ⟨rb,0,none⟩=some (.int .i64 0):=by simp[World.cell?,hrb8]
     have r1:w8.cell? ⟨rb,1,none⟩=some (.int .i64 0):=by simp[World.cell?,hrb8]
     have f0:w8.frozen? ⟨rb,0,none⟩=false:=by simp[World.frozen?,hrb8]
     have f1:w8.frozen? ⟨rb,1,none⟩=false:=by simp[World.frozen?,hrb8]
     have hM9:=(hM8.setVar hrb8 (by omega) (o:=0) (.int .i64 wh1)).setVar (heap_setCell_same hrb8 _) (by omega) (o:=1) (.int .i64 wh2);have hst9:=((hstr.trans hst8).setVar (rb:=rb) (o:=0) (by omega) (.int .i64 wh1)).setVar (rb:=rb) (o:=1) (by omega) (.int .i64 wh2);have HP:=ae (show aiM B aM g Mk b1 b4 b5 mv vv n R vars sv S (wh1,wh2) S2 (upd K2 r (wh1,wh2)) w (.returned (ahi (wh1,wh2))) _ from⟨rfl,⟨⟨by simp only;omega,hwh1⟩,by simp only;omega,by simp only;omega⟩,by omega,sv',_,hM9,hst9⟩);clear hM9 hst9 hM8 hst8 hMr hstr hwbr hrbr har hwb8 hrb8 hXr c1 c2 c3;go_wp2;refine bodyPost_ret (v:=ahi (wh1,wh2)) (by simp[results,Tryz.results190,go_sem,r0,r1,ahi]) rfl ?_;exact HP.out
theorem aty:(Tryz.prog.info? 194).map (fun i=>(i.zero,i.size,i.bytes))=some (some (.agg #[.int .i64 0,.int .i64 0]),2,16):=by kernel_rfl
def amr(R:Int->Int)(f:Nat):List (Int×Int)->List Int->List SyU->Kn->Option (Option (List (Int×Int))×List SyU)
 |acc,[],S,K=>some (some acc,S)
 |acc,v::vs,S,K=>
  match ofF R f S K v with
  |none=>none
  |some (m,S',K')=>if m.1=0 then some (none,S') else amr R f (acc++[m]) vs S' K'
theorem aiN(w:World):(Instr.makeMap 225 none).run Tryz.prog w= .ok (.map (some w.heap.size)) (w.alloc (.map #[] 0)):=by
 simp[Instr.makeMap,run_underlying Tryz.underlying225,asInt,asIntOf,Result.andThen]
def alo(B aM g:Nat)(sv mv vv:Value)(n:Nat)(R:Int->Int)(vars:List Int)(r:Option (List (Int×Int))×List SyU)(w:World)(e:Ending)(w':World):Prop:=
 (∃v,e= .returned (.tuple #[v,.bool r.1.isSome])/\(∀ms,r.1=some ms->w'.ownsRow w.heap.size 194 2 v ms.length (aaE ms)/\∀m∈ms,okM m)/\(r.1=none->v= .slice none 0 0))/\∃sv',IsG B w'.heap.size aM g w' sv' mv vv r.2 n R vars/\GOk r.2 R/\GStep g sv mv vv w sv' mv vv w'
def aw4(B aM g Mk b1 b4 b5:Nat)(mv vv:Value)(n:Nat)(R:Int->Int)(vars:List Int)(sv:Value)(f:Nat)(X:Option (Option (List (Int×Int))×List SyU))(N1:Nat)(w:World)(v i:Value)(wr:World):Prop:=
 ∃(k:Nat) (sv':Value) (nk':Nat) (S':List SyU) (K':Kn) (acc:List (Int×Int)),k<=vars.length/\acc.length=k/\i= .int .i64 k/\afk B aM g Mk b1 b4 b5 mv vv n R vars wr sv' S' nk' K'/\GStep g sv mv vv w sv' mv vv wr/\wr.ownsRow w.heap.size 194 2 v acc.length (aaE acc)/\(∀m∈acc,okM m)/\amr R f acc (vars.drop k) S' K'=X/\N1<=S'.length
theorem aa6.toG{g Mk:Nat}{mv vv sv sv':Value}{w w':World}(h:aa6 g Mk mv vv sv w sv' w'){w0:World}{sv0:Value}(k:GStep g sv0 mv vv w0 sv mv vv w)(hM:w0.heap.size<=Mk):GStep g sv0 mv vv w0 sv' mv vv w':=
 ⟨h.os.trans k.os,h.tape.trans k.tape,h.output.trans k.output,aE k.size h.size,fun i hi hn=>(h.block i (aF hi k.size) (fun e=>hn (k.own i hi e)) (by omega)).trans (k.block i hi hn),fun i hi e=>k.own i hi (h.own i (aF hi k.size) e)⟩
theorem afk.rowStep{B aM g Mk b1 b4 b5:Nat}{mv vv:Value}{n:Nat}{R:Int->Int}{vars:List Int}{W w9:World}{sv:Value}{S:List SyU}{nk:Nat}{K:Kn}(h:afk B aM g Mk b1 b4 b5 mv vv n R vars W sv S nk K){base k:Nat}{v:Value}{xs:List Value}(hr:W.ownsRow base 194 2 v k xs){ob:Obj}(hg:(W.alloc ob).grownBy w9 v.ownBlock)(hn:aM<=base):afk B aM g Mk b1 b4 b5 mv vv n R vars w9 sv S nk K:=by
 have hk:∀i,i<W.heap.size->v.ownBlock≠some i->w9.heap[i]? =W.heap[i]? :=fun i hi hs=>(hg.block i (by simp;omega) (fun e=>hs e.symm)).trans (az W ob i hi);have hsz:W.heap.size<=w9.heap.size:=by have:=hg.size;simp at this;omega
 have hty:∀(i:Nat) (cs:Array Value) (t:TypeId),W.heap[i]? =some (Obj.cells cs t (0,0))->t≠194->v.ownBlock≠some i:=fun i cs t hi ht e=>by
  obtain⟨_,_,cur,hc⟩:=rowBlock hr e;rw[hi] at hc;simp only[aJ,Obj.cells.injEq] at hc;exact ht hc.2.1
 have hmp:∀(i:Nat) (es:Array MapEntry) (c:Nat),W.heap[i]? =some (Obj.map es c)->v.ownBlock≠some i:=fun i es c hi e=>by
  obtain⟨_,_,cur,hc⟩:=rowBlock hr e;rw[hi] at hc;cases hc
 obtain⟨es,c,hMk⟩:=h.map.obj;obtain⟨c1,c2,c3⟩:=h.cap;refine⟨?_,aE h.base hsz,h.map.kept (hk Mk h.map.lt (hmp _ _ _ hMk)),⟨(hk _ (aj.1 c1).1 (hty _ _ _ c1 (by decide))).trans c1,(hk _ (aj.1 c2).1 (hty _ _ _ c2 (by decide))).trans c2,(hk _ (aj.1 c3).1 (hty _ _ _ c3 (by decide))).trans c3⟩,h.ne,h.mkn,h.ok,h.kok⟩;refine(h.gr.keptBut fun i hi=> ?_).mono hsz
 rcases hi with hi|hi|hi
 ·exact hk i (by have:=h.gr.low;have:=h.base;omega) (fun e=>by have:=(rowBlock hr e).1;omega)
 ·exact hk i (h.gr.own_lt hi) (fun e=>by
   obtain⟨_,_,cur,hc⟩:=rowBlock hr e;exact aiL h.gr hc (by decide) (by decide) (by decide) hi)
 ·refine hk i hi.lt ?_;obtain⟨_,_,_,cur,hc⟩:=hi;exact hty _ _ _ hc (by decide)
theorem GStep.grow{g:Nat}{sv mv vv sv' mv' vv':Value}{w W w9:World}(h:GStep g sv mv vv w sv' mv' vv' W){v:Value}{ob:Obj}(hg:(W.alloc ob).grownBy w9 v.ownBlock)(hv:∀i,v.ownBlock=some i->w.heap.size<=i):GStep g sv mv vv w sv' mv' vv' w9:=
 ⟨hg.os.trans h.os,hg.tape.trans h.tape,hg.output.trans h.output,by have:=hg.size;have:=h.size;simp at*;omega,fun i hi hn=>((hg.block i (by have:=h.size;simp;omega) (fun e=>by have:=hv i e.symm;omega)).trans (az W ob i (aF hi h.size))).trans (h.block i hi hn),h.own⟩
theorem ajW(B aM g:Nat)(sv mv vv:Value)(n:Nat)(R:Int->Int)(vars:List Int)(hn:n<=100000)(hvl:vars.length<=100000)(S:List SyU)(f:Nat)(r:Option (List (Int×Int))×List SyU)(hr:amr R f [] vars S (fun _=>none)=some r)(hvv:∀z∈vars,0<=z/\z<256)(w:World)(hB:B<=w.heap.size)(hG:IsG B w.heap.size aM g w sv mv vv S n R vars)(hok:GOk S R):
 Calls Tryz.prog 147 #[.pointer (some ⟨g,0,none⟩)] w (alo B aM g sv mv vv n R vars r w):=by
 obtain⟨i0,hi,hz0,hz1,hz2⟩:=info_parts aty;have hmk:=aiN (w.alloc (.cells #[.pointer (some ⟨g,0,none⟩)] 213));have hn0:aM<=w.heap.size:=aE hG.low hB;obtain⟨wL,hwL⟩:∃wL,(((w.alloc (.cells #[.pointer (some ⟨g,0,none⟩)] 213)).alloc (.map #[] 0)).alloc (.cells #[.map (some (w.heap.size+1))] 225)).alloc (.cells #[ofFn w.heap.size (w.heap.size+2) (w.heap.size+3)] 226)=wL:=⟨_,rfl⟩;have hbL:Below w.heap.size w wL:=by rw[←hwL];exact((((ag _ w).alloc (af _) _).alloc (by simp) _).alloc (by simp;omega) _).alloc (by simp;omega) _
 have hL1:wL.heap[w.heap.size]? =some (.cells #[.pointer (some ⟨g,0,none⟩)] 213 (0,0)):=by
  rw[←hwL];exact((az _ _ _ (by simp<;>omega)).trans ((az _ _ _ (by simp<;>omega)).trans (az _ _ _ (by simp)))).trans (heap_alloc_new w _)
 have hL2:wL.heap[w.heap.size+1]? =some (.map #[] 0):=by
  rw[←hwL];refine((az _ _ _ (by simp<;>omega)).trans (az _ _ _ (by simp))).trans ?_;have:=heap_alloc_new (w.alloc (.cells #[.pointer (some ⟨g,0,none⟩)] 213)) (.map #[] 0);simpa using this
 have hL3:wL.heap[w.heap.size+2]? =some (.cells #[.map (some (w.heap.size+1))] 225 (0,0)):=by
  rw[←hwL];refine(az _ _ _ (by simp)).trans ?_;have:=heap_alloc_new ((w.alloc (.cells #[.pointer (some ⟨g,0,none⟩)] 213)).alloc (.map #[] 0)) (.cells #[.map (some (w.heap.size+1))] 225);simpa using this
 have hL4:wL.heap[w.heap.size+3]? =some (.cells #[ofFn w.heap.size (w.heap.size+2) (w.heap.size+3)] 226 (0,0)):=by
  rw[←hwL];have:=heap_alloc_new (((w.alloc (.cells #[.pointer (some ⟨g,0,none⟩)] 213)).alloc (.map #[] 0)).alloc (.cells #[.map (some (w.heap.size+1))] 225)) (.cells #[ofFn w.heap.size (w.heap.size+2) (w.heap.size+3)] 226);simpa using this
 have hML:afk B aM g (w.heap.size+1) w.heap.size (w.heap.size+2) (w.heap.size+3) mv vv n R vars wL sv S 0 (fun _=>none):=by
  refine⟨(hG.later hbL hB).mono hbL.size,aE hB hbL.size,?_,⟨hL1,hL3,hL4⟩,fun e=> ?_,by omega,hok,⟨[],by simp,rfl,by simp,by simp,by simp⟩⟩
  ·have:=(ahm.made (w.alloc (.cells #[.pointer (some ⟨g,0,none⟩)] 213)))
   have h2:=this.kept (W':=wL) (by
    rw[show(w.alloc (.cells #[.pointer (some ⟨g,0,none⟩)] 213)).heap.size=w.heap.size+1 from by simp,hL2];have:=heap_alloc_new (w.alloc (.cells #[.pointer (some ⟨g,0,none⟩)] 213)) (.map #[] 0);simpa using this.symm)
   have h3:ahm wL (w.heap.size+1) 0 (fun _=>none):=by simpa using h2
   exact h3
  ·have:=(hG.links.map_block e).2.1;omega
 obtain⟨va,vc,hva⟩:∃va vc,vv= .slice va vars.length vc/\vars.length<=vc/\vc<=maxLen:=by
  rcases hG.vrow.2 with⟨h,h0⟩|⟨g',cap',cur,h,_,_,h1,h2,_⟩
  ·exact⟨none,0,by rw[h,h0],by omega,by simp[maxLen]⟩
  ·exact⟨_,cap',h,h1,h2⟩
 obtain⟨hva,hvc1,hvc2⟩:=hva;unfold maxLen at hvc2;have hgL:g<wL.heap.size:=aF hG.lt hbL.size;have gb:wL.cell? ⟨w.heap.size,0,none⟩=some (.pointer (some ⟨g,0,none⟩)):=by simp[World.cell?,hL1]
 have g2:wL.cell? ⟨g,2,none⟩=some (.slice va vars.length vc):=by rw[←hva];simp[World.cell?,hML.gr.heap]
 have HST:=ae (show aw4 B aM g (w.heap.size+1) w.heap.size (w.heap.size+2) (w.heap.size+3) mv vv n R vars sv f (some r) S.length w (.slice none 0 0) (.int .i64 ((0:Nat):Int)) wL from
  ⟨0,sv,0,S,_,[],Nat.zero_le _,rfl,rfl,hML,GStep.later hbL,World.ownsRow_nil _ _ _ _,by simp,by simpa using hr,af _⟩)
 have HVA:=ae hva;have HVV:=ae hvv;clear hML hL1 hL2 hL3 hL4 hbL hr hG hvv hok hva;go_enter Tryz.func147,Tryz.ntmps147;go_wp2
 go_loopw [6,17] (fun v i wr=>aw4 B aM g (w.heap.size+1) w.heap.size (w.heap.size+2) (w.heap.size+3) mv vv n R vars sv f (some r) S.length w v i wr) (fun _ i _=>vars.length-(intOf i).toNat)
 case atStart=>exact HST.out
 case round=>
  obtain⟨k,sv',nk',S2,K2,acc,hk,hacc,rfl,hMr,hstr,hrow,hokm,hXr,hN⟩:=hrel;have hzr:=hstr.size;by_cases hlt:k<vars.length
  ·obtain⟨x,hx⟩:∃x,vars[k]? =some x:=⟨_,ai hlt⟩;obtain⟨hkl,hke⟩:=ah.1 hx;have hxv:=HVV.out x (ak hx);rw[aD hkl,hke,amr] at hXr
   obtain⟨ab,hab,hck⟩:∃ab,va=some ⟨ab,0,none⟩/\wr.cell? ⟨ab,k,none⟩=some (.int .i64 x):=by
    have hvr:=hMr.gr.vrow;rw[HVA.out] at hvr;have hcells:=fun g hg=>hvr.cells (g:=g) hg
    rcases hvr.2 with⟨h,h0⟩|⟨g',cap',cur,h,_⟩
    ·omega
    ·simp only[Value.slice.injEq] at h;refine⟨g',h.1,?_⟩;have:=hcells g' (by rw[h.1];rfl) k (.int .i64 x) (by simp[hx]);rw[aaB] at this;simpa using this
   subst hab;have hk0:(0:Int)<=(k:Int):=aw _;have hk1:(k:Int)<(vars.length:Int):=by omega
   obtain⟨c1,c2,c3⟩:=id hMr.cap;have k5:wr.cell? ⟨w.heap.size+3,0,none⟩=some (ofFn w.heap.size (w.heap.size+2) (w.heap.size+3)):=by simp[World.cell?,c3]
   cases hf:ofF R f S2 K2 x with
   |none=>rw[hf] at hXr;cases hXr
   |some z=>
    obtain⟨p,S3,K3⟩:=z;rw[hf] at hXr;simp only at hXr;have CI:=ae (atx B aM g (w.heap.size+1) w.heap.size (w.heap.size+2) (w.heap.size+3) mv vv n R vars hn f S2 K2 x p S3 K3 hf sv' nk' wr hMr hxv.1 (by omega));have HALL:=ae (And.intro hMr (And.intro hstr (And.intro hrow hokm)));have HXR:=ae hXr;clear hMr hstr hrow hokm hXr hx c1 c2 c3 hf
    go_wp2_with fail
    refine CI.out.mono ?_;rintro e w7 ⟨rfl,⟨⟨hp0,hp1⟩,hp2,hp3⟩,hSl7,sv7,nk7,hM7,hst7⟩;obtain⟨hMr,hstr,hrow,hokm⟩:=HALL.out;have hst07:=hst7.toG hstr (by omega)
    have hrow7:w7.ownsRow w.heap.size 194 2 u6 acc.length (aaE acc):=ownsRow_kept hrow (fun b hb=>by
     obtain⟨_,_,cur,hc⟩:=rowBlock hrow hb;exact(hMr.varStep hc hst7).trans hc.symm)
    obtain⟨p1,p2⟩:=p;simp only at hp0 hp1 hp2 hp3;simp only[ahi];obtain⟨w8,hw8⟩:∃w8,w7.alloc (.cells #[.int .i64 p1,.int .i64 p2] 194)=w8:=⟨_,rfl⟩;have hb8:Below w7.heap.size w7 w8:=by rw[←hw8];exact(ag _ _).alloc (af _) _
    have d0:w8.cell? ⟨w7.heap.size,0,none⟩=some (.int .i64 p1):=by rw[←hw8];simp[go_sem]
    have d1:w8.cell? ⟨w7.heap.size,1,none⟩=some (.int .i64 p2):=by rw[←hw8];simp[go_sem]
    have hM8:=hM7.later hb8;have hrow8:=aaM hrow7 hb8;have hst08:GStep g sv mv vv w sv7 mv vv w8:=hst07.trans (GStep.later hb8);have hXr:=HXR.out;simp only at hXr;by_cases hp:p1=0
    ·subst hp;rw[if_pos rfl] at hXr;simp only[aJ] at hXr;subst hXr;have HP:=ae (show alo B aM g sv mv vv n R vars (none,S3) w (.returned (.tuple #[.slice none 0 0,.bool false])) w8 from⟨⟨_,rfl,(fun ms h=>by cases h),fun _=>rfl⟩,sv7,hM8.gr,hM8.ok,hst08⟩);clear hM8 hrow8 hst08 hM7 hst7 hMr hstr hrow hokm hst07 hrow7 hb8 HXR HALL CI;go_wp2;refine bodyPost_ret (v:= .tuple #[.slice none 0 0,.bool false]) (by simp[results,Tryz.results147,go_sem]) rfl ?_;exact HP.out
    ·rw[if_neg hp] at hXr;have hpf:(p1==0)=false:=by simpa using hp
     have hz8:=hst08.size;have hkm:acc.length+1<=maxLen:=by unfold maxLen;omega
     have hbase:w.heap.size<=w8.heap.size:=hz8;have HALL2:=ae (And.intro hM8 (And.intro hst08 (And.intro hXr hokm)));clear hM8 hst08 hM7 hst7 hMr hstr hrow hokm hst07 hrow7 hb8 HXR HALL CI hXr
     go_wp2_with (first|(at_builtin;refine wpList_append_lies _ (by rfl) _ _ 190 (by rfl) w.heap.size 194 i0 _ 2 16 Tryz.underlying190 hi hz0 hz1 hz2 rfl (by omega) _ _ (aaE acc) (by rfl) (hrow8.alloc _) ⟨w8.heap.size,0,none⟩ 1 1 [.int .i64 p1,.int .i64 p2] (by rfl) (by rfl) (World.news_of_block (cs:=#[.int .i64 p1,.int .i64 p2]) (t:=194) (fr:=(0,0)) (heap_alloc_new w8 _)) (by simp[Value.oneCell']) (by omega) hkm (by omega) (by simp;omega) (w8.heap.size+1) (by simp) ?_;intro g5 cap5 w9 hown9 hgrow9 hat9 hlt9)|go_in)
     go_roundw
     case rel=>
      obtain⟨hM8,hst8,hXr,hokm⟩:=HALL2.out;refine⟨k+1,sv7,nk7,S3,K3,acc++[(p1,p2)],by omega,by simp[hacc],by go_num,hM8.rowStep hrow8 hgrow9 hn0,hst8.grow hgrow9 (fun i hi=>(rowBlock hrow8 hi).1),?_,fun m hm=> ?_,hXr,by omega⟩
      ·rw[adg,aK];rw[hacc] at hown9 ⊢;exact hown9
      ·rcases aG.1 hm with hm|hm
       ·exact hokm m hm
       ·simp at hm;subst hm;exact⟨⟨hp0,hp1⟩,hp2,hp3⟩
     case measure=>simp[intOf];omega
  ·obtain rfl:k=vars.length:=by omega
   rw[List.drop_of_length_le (af _),amr] at hXr;simp only[aJ] at hXr;subst hXr
   obtain⟨aa,cc,hvv6⟩:∃aa cc,u6= .slice aa acc.length cc:=by
    rcases hrow.2 with⟨h,h0⟩|⟨g',cap',cur,h,_⟩
    ·exact⟨none,0,by rw[h,h0]⟩
    ·exact⟨_,cap',h⟩
   subst hvv6;have HP:=ae (show alo B aM g sv mv vv n R vars (some acc,S2) w (.returned (.tuple #[.slice aa acc.length cc,.bool true])) wr from⟨⟨_,rfl,(fun ms h=>by cases h;exact⟨hrow,hokm⟩),fun h=>by cases h⟩,sv',hMr.gr,hMr.ok,hstr⟩);clear hMr hstr hrow hokm;go_wp2;refine bodyPost_ret (v:= .tuple #[.slice aa acc.length cc,.bool true]) (by simp[results,Tryz.results147,go_sem]) rfl ?_;exact HP.out
end Go.Proofs.YtabfapijgfjflaaGreat
