import Derived.Test.YtabfapijgfjflaaGreatMQBg
import Derived.Test.YtabfapijgfjflaaGreatMQBf
import Derived.Deep.RegionHeld3
import Derived.Deep.DeepCutAuto
import Derived.Deep.RegionWith
import Derived.IntWalk
import Derived.Test.YtabfapijgfjflaaGreatMQBd
import Derived.Test.YtabfapijgfjflaaGreatMQBc
import Derived.Test.YtabfapijgfjflaaGreatMAl
set_option linter.unusedVariables false
set_option linter.unusedSimpArgs false
set_option maxRecDepth 100000
set_option maxHeartbeats 4000000
namespace Go.Proofs.YtabfapijgfjflaaGreat
open Go.RowKit Go.Shelf
attribute [local go_sem] Oper.semAt_some
def awP(w2:World)(x0:T)(p1:Option Addr)(q1:Nat)(y0:T)(p2:Option Addr)(q2:Nat)(v7 v8:Value)(wx:World):Prop:=
 ∃Bx By:Nat,v7= .pointer (some ⟨Bx,0,none⟩)/\v8= .pointer (some ⟨By,0,none⟩)/\w2.heap.size<=Bx/\w2.heap.size<=By/\Bx<wx.heap.size/\By<wx.heap.size/\
  wx.cell? ⟨Bx,0,none⟩=some (.int .i64 x0.head)/\wx.cell? ⟨Bx,1,none⟩=some (.slice p1 x0.args.length q1)/\wx.cell? ⟨By,0,none⟩=some (.int .i64 y0.head)/\wx.cell? ⟨By,1,none⟩=some (.slice p2 y0.args.length q2)/\Below w2.heap.size w2 wx
def as1(w w2:World)(g cap:Nat)(xs0 ys0:List T)(fs:List (List T×List T))(vs:List (Value×Value))(Bx By:Nat)(x0:T)(p1:Option Addr)(q1:Nat)(y0:T)(p2:Option Addr)(q2:Nat)(wx:World):Prop:=
 ∃u,wx.ownsRow (w.heap.size+2+4) 243 2 (.slice (some ⟨g,0,none⟩) (fs.length+1) cap) (fs.length+1) (aeU (u::vs))/\ahk (w.heap.size+2+4) wx ((xs0,ys0)::fs) (u::vs)/\
  wx.cell? ⟨Bx,0,none⟩=some (.int .i64 x0.head)/\wx.cell? ⟨Bx,1,none⟩=some (.slice p1 x0.args.length q1)/\wx.cell? ⟨By,0,none⟩=some (.int .i64 y0.head)/\wx.cell? ⟨By,1,none⟩=some (.slice p2 y0.args.length q2)/\Below (w.heap.size+2+4) w2 wx
def as2(wc:World)(q:Int)(v:Value)(wx:World):Prop:=∃B:Nat,v= .pointer (some ⟨B,0,none⟩)/\wc.heap.size<=B/\B<wx.heap.size/\wx.cell? ⟨B,0,none⟩=some (.int .i64 q)/\wx.frozen? ⟨B,0,none⟩=false/\Below wc.heap.size wc wx
theorem arB{W w1:World}(hb:Below W.heap.size W w1):(∀b o,b<W.heap.size->w1.cell? ⟨b,o,none⟩=W.cell? ⟨b,o,none⟩)/\(∀b o,b<W.heap.size->w1.frozen? ⟨b,o,none⟩=W.frozen? ⟨b,o,none⟩):=
 ⟨fun b o h=>hb.cell (p:=⟨b,o,none⟩) h,fun b o h=>hb.frozen (p:=⟨b,o,none⟩) h⟩
theorem ao7{wc w':World}{Bx By:Nat}{v1 v2 v3 v4:Value}(hBx:Bx<wc.heap.size)(hBy:By<wc.heap.size)(x1:wc.cell? ⟨Bx,0,none⟩=some v1)(x2:wc.cell? ⟨Bx,1,none⟩=some v2)(y1:wc.cell? ⟨By,0,none⟩=some v3)(y2:wc.cell? ⟨By,1,none⟩=some v4)(h:Below wc.heap.size wc w'):
 w'.cell? ⟨Bx,0,none⟩=some v1/\w'.cell? ⟨Bx,1,none⟩=some v2/\w'.cell? ⟨By,0,none⟩=some v3/\w'.cell? ⟨By,1,none⟩=some v4/\Below wc.heap.size wc w':=
 ⟨(h.cell (p:=⟨Bx,0,none⟩) hBx).trans x1,(h.cell (p:=⟨Bx,1,none⟩) hBx).trans x2,(h.cell (p:=⟨By,0,none⟩) hBy).trans y1,(h.cell (p:=⟨By,1,none⟩) hBy).trans y2,h⟩
theorem anL{wc w':World}{Bx By Bg:Nat}{v1 v2 v3 v4 v5:Value}(hBx:Bx<wc.heap.size)(hBy:By<wc.heap.size)(hBg:Bg<wc.heap.size)(x1:wc.cell? ⟨Bx,0,none⟩=some v1)(x2:wc.cell? ⟨Bx,1,none⟩=some v2)(y1:wc.cell? ⟨By,0,none⟩=some v3)(y2:wc.cell? ⟨By,1,none⟩=some v4)(g1:wc.cell? ⟨Bg,0,none⟩=some v5)(h:Below wc.heap.size wc w'):
 w'.cell? ⟨Bx,0,none⟩=some v1/\w'.cell? ⟨Bx,1,none⟩=some v2/\w'.cell? ⟨By,0,none⟩=some v3/\w'.cell? ⟨By,1,none⟩=some v4/\w'.cell? ⟨Bg,0,none⟩=some v5/\Below wc.heap.size wc w':=
 ⟨(h.cell (p:=⟨Bx,0,none⟩) hBx).trans x1,(h.cell (p:=⟨Bx,1,none⟩) hBx).trans x2,(h.cell (p:=⟨By,0,none⟩) hBy).trans y1,(h.cell (p:=⟨By,1,none⟩) hBy).trans y2,(h.cell (p:=⟨Bg,0,none⟩) hBg).trans g1,h⟩
theorem ao8(a b c:Int):orL [a,b,c]=avj a b c:=by
 simp only[orL,avj];split
 ·rfl
 ·split
  ·rfl
  ·split
   ·rfl
   ·rename_i h;simp at h;exact h.symm
def au2(w:World)(Bg Bo Bs g cap:Nat)(ps:List (List T×List T))(vs:List (Value×Value))(go:Int×Int)(pre:List (Value×Value))(W:World):Prop:=
 W.cell? ⟨Bg,0,none⟩=some (.int .i64 ((ps.take pre.length).foldl abL go).1)/\W.frozen? ⟨Bg,0,none⟩=false/\W.cell? ⟨Bo,0,none⟩=some (.int .i64 ((ps.take pre.length).foldl abL go).2)/\W.frozen? ⟨Bo,0,none⟩=false/\
  ags Bs g cap vs W/\ahk (w.heap.size+2+4) W ps vs/\Below w.heap.size w W
theorem au2.abides{w:World}{Bg Bo Bs g cap:Nat}{ps:List (List T×List T)}{vs:List (Value×Value)}{go:Int×Int}{B:Nat}(h1:Bg<B)(h2:Bo<B)(h3:Bs<B)(h4:g<B)(h5:w.heap.size+2+4<=B):aaC B (au2 w Bg Bo Bs g cap ps vs go):=by
 rintro pre X Y ⟨a1,a2,a3,a4,⟨a5,a6⟩,a7,a8⟩ hb
 exact⟨(hb.cell (p:=⟨Bg,0,none⟩) h1).trans a1,(hb.frozen (p:=⟨Bg,0,none⟩) h1).trans a2,(hb.cell (p:=⟨Bo,0,none⟩) h2).trans a3,(hb.frozen (p:=⟨Bo,0,none⟩) h2).trans a4,
  ⟨(hb.cell (p:=⟨Bs,0,none⟩) h3).trans a5,fun j hj=>(hb.cell (p:=⟨g,j,none⟩) h4).trans (a6 j hj)⟩,a7.below (hb.mono h5),a8.trans (hb.mono (by omega))⟩
theorem ahk.at_pre{aN:Nat}{W:World}:∀{fs:List (List T×List T)} {vs pre:List (Value×Value)} {x:Value×Value},ahk aN W fs vs->pre++[x]<+:vs->
 ∃p,fs[pre.length]? =some p/\(∃a c,x.1= .slice a p.1.length c/\aab aN W p.1 a c)/\(∃a c,x.2= .slice a p.2.length c/\aab aN W p.2 a c)
 |[],[],_,_,_,h=>by simp at h
 |[],_::_,_,_,h,_=>h.elim
 |_::_,[],_,_,h,_=>h.elim
 |f::fs,v::vs,[],x,h,hp=>by
  obtain⟨rfl,_⟩:=by simpa using hp
  exact⟨f,rfl,h.1,h.2.1⟩
 |f::fs,v::vs,y::pre,x,h,hp=>by
  rw[List.cons_append,List.cons_prefix_cons] at hp;obtain⟨p,h1,h2⟩:=ahk.at_pre (fs:=fs) (vs:=vs) (pre:=pre) h.2.2.2 hp.2;exact⟨p,by simpa using h1,h2⟩
theorem as3:∀{ps:List (List T×List T)} {k:Nat} {p:List T×List T},ps[k]? =some p->T.sizes p.1<=ahQ ps/\T.sizes p.2<=ahR ps
 |[],_,_,h=>by simp at h
 |q::ps,0,p,h=>by simp at h;subst h;simp[ahQ,ahR]
 |q::ps,k+1,p,h=>by
  have:=as3 (ps:=ps) (k:=k) (p:=p) (by simpa using h);simp only[ahQ,ahR];omega
theorem arC{ps:List (List T×List T)}{pre:List (Value×Value)}{p:List T×List T}{x:Value×Value}{go:Int×Int}(h:ps[pre.length]? =some p):(ps.take (pre++[x]).length).foldl abL go=abL ((ps.take pre.length).foldl abL go) p:=by
 obtain⟨hi,e⟩:=ah.1 h;rw[aK,List.length_singleton,aI hi,List.foldl_append,e];rfl
theorem amE:∀(ps:List (List T×List T)) (k:Nat) (g o:Int),g-ahR ps<=((ps.take k).foldl abL (g,o)).1/\((ps.take k).foldl abL (g,o)).1<=g+ahQ ps
 |[],k,g,o=>by simp[ahQ,ahR]
 |p::ps,0,g,o=>by simp;omega
 |p::ps,k+1,g,o=>by
  have h:=amE ps k (abL (g,o) p).1 (abL (g,o) p).2;have e:(abL (g,o) p).1=g+((T.sizes p.1:Int)-T.sizes p.2):=rfl;simp only[List.take_succ_cons,List.foldl_cons,ahQ,ahR];rw[e] at h;have e2:(abL (g,o) p)=(g+((T.sizes p.1:Int)-T.sizes p.2),(abL (g,o) p).2):=rfl;rw[e2];omega
theorem afO{aN:Nat}{W:World}{t:T}{ts:List T}{b o c:Nat}(_h:aab aN W (t::ts) (some ⟨b,o,none⟩) c)(h0:ts.length=0):∃a d,(Value.slice (some ⟨b,o,none⟩) 0 0)= .slice a ts.length d/\aab aN W ts a d:=by
 rw[aC h0];exact⟨_,_,rfl,af _,by simp[maxLen],.inl rfl⟩
theorem aer{aN:Nat}{W:World}{t:T}{ts:List T}{b o c:Nat}(h:aab aN W (t::ts) (some ⟨b,o,none⟩) c)(hc:¬c=1):∃a d,(Value.slice (some ⟨b,o+2,none⟩) ts.length (c-1))= .slice a ts.length d/\aab aN W ts a d:=by
 have h1:=h.tail (j:=1) (by simp);rw[if_neg hc] at h1;exact⟨_,_,rfl,h1⟩
theorem ai0{w w2 wc:World}{g cap:Nat}{xs0 ys0:List T}{fs:List (List T×List T)}{v:Value×Value}{vs:List (Value×Value)}{Bx By:Nat}{x0:T}{p1:Option Addr}{q1:Nat}{y0:T}{p2:Option Addr}{q2:Nat}{u1 u2:Value}
 (hO:w2.ownsRow (w.heap.size+2+4) 243 2 (.slice (some ⟨g,0,none⟩) (fs.length+1) cap) (fs.length+1) (aeU (v::vs))) (hk:fs.length=vs.length) (hb:Below w2.heap.size w2 wc)
 (h1:∃a d,u1= .slice a xs0.length d/\aab (w.heap.size+2+4) w2 xs0 a d) (h2:∃a d,u2= .slice a ys0.length d/\aab (w.heap.size+2+4) w2 ys0 a d) (hF:ahk (w.heap.size+2+4) w2 fs vs) (hlen:(x0::xs0).length=(y0::ys0).length)
 (hBx:w2.heap.size<=Bx) (hBy:w2.heap.size<=By) (x1:wc.cell? ⟨Bx,0,none⟩=some (.int .i64 x0.head)) (x2:wc.cell? ⟨Bx,1,none⟩=some (.slice p1 x0.args.length q1)) (y1:wc.cell? ⟨By,0,none⟩=some (.int .i64 y0.head)) (y2:wc.cell? ⟨By,1,none⟩=some (.slice p2 y0.args.length q2))
 (hg:g<w2.heap.size) (hsz:w.heap.size+2+4<=w2.heap.size):
 as1 w w2 g cap xs0 ys0 fs vs Bx By x0 p1 q1 y0 p2 q2 (((wc.setCell ⟨g,fs.length*2,none⟩ u1).setCell ⟨g,fs.length*2+1,none⟩ u2).drew):=by
 obtain⟨hO2,hB2⟩:=ab9 hO hk hb u1 u2;have hbl:Below (w.heap.size+2+4) w2 (((wc.setCell ⟨g,fs.length*2,none⟩ u1).setCell ⟨g,fs.length*2+1,none⟩ u2).drew):=(hb.mono hsz).trans hB2;obtain⟨a,d,e1,hA1⟩:=h1;obtain⟨a',d',e2,hA2⟩:=h2
 have hc:∀B o,w2.heap.size<=B->(((wc.setCell ⟨g,fs.length*2,none⟩ u1).setCell ⟨g,fs.length*2+1,none⟩ u2).drew).cell? ⟨B,o,none⟩=wc.cell? ⟨B,o,none⟩:=fun B o h=>
  aq (a:=⟨B,o,none⟩) ((an _ _ _ _ (by simp;omega)).trans (an _ _ _ _ (by simp;omega)))
 exact⟨(u1,u2),hO2,⟨⟨a,d,e1,hA1.below hbl⟩,⟨a',d',e2,hA2.below hbl⟩,by simpa using hlen,hF.below hbl⟩,(hc Bx 0 hBx).trans x1,(hc Bx 1 hBx).trans x2,(hc By 0 hBy).trans y1,(hc By 1 hBy).trans y2,hbl⟩
theorem arD{w W w':World}{Bg Bo Bs g cap B:Nat}{ps:List (List T×List T)}{vs pre:List (Value×Value)}{x:Value×Value}{go:Int×Int}{p:List T×List T}{G O qq:Int}{m1 m2:Nat}{v v':Value}(o:Obj)
 (hbi:ags Bs g cap vs W) (hPF:ahk (w.heap.size+2+4) W ps vs) (hLW:Below w.heap.size w W) (hb:Below W.heap.size W w')
 (hB:B<=W.heap.size) (h1:w.heap.size+2+4<=Bg) (h2:w.heap.size+2+4<=Bo) (hBg:Bg<B) (hBo:Bo<B) (hgo:Bg≠Bo) (hBs:Bs<B) (hBsg:Bs≠Bg) (hBso:Bs≠Bo) (hg:g<B) (hgg:g≠Bg) (hgO:g≠Bo)
 (hstep:(ps.take (pre++[x]).length).foldl abL go=abL (G,O) p) (hm:T.sizes p.1=m1/\T.sizes p.2=m2) (hq:G+((m1:Int)-m2)=qq)
 (g1:w'.cell? ⟨Bg,0,none⟩=some v) (g2:w'.frozen? ⟨Bg,0,none⟩=false) (r1:w'.cell? ⟨Bo,0,none⟩=some v') (r2:w'.frozen? ⟨Bo,0,none⟩=false):
 Kept (w.heap.size+2+4) B W ((((w'.setCell ⟨Bg,0,none⟩ (.int .i64 qq)).setCell ⟨Bo,0,none⟩ (.int .i64 (orL [ord qq 0,O]))).alloc o).drew)/\
  au2 w Bg Bo Bs g cap ps vs go (pre++[x]) ((((w'.setCell ⟨Bg,0,none⟩ (.int .i64 qq)).setCell ⟨Bo,0,none⟩ (.int .i64 (orL [ord qq 0,O]))).alloc o).drew):=by
 have hsz:=hb.size;have hk0:Kept (w.heap.size+2+4) B W w':=(Kept.refl _ _ W).below (by omega) hb
 have hk:Kept (w.heap.size+2+4) B W ((((w'.setCell ⟨Bg,0,none⟩ (.int .i64 qq)).setCell ⟨Bo,0,none⟩ (.int .i64 (orL [ord qq 0,O]))).alloc o).drew):=
  (((hk0.setCell (p:=⟨Bg,0,none⟩) h1 (.inl hBg) _).setCell (p:=⟨Bo,0,none⟩) h2 (.inl hBo) _).alloc (by omega) o).drew
 have hl:∀b,b<B->b≠Bg->b≠Bo->((((w'.setCell ⟨Bg,0,none⟩ (.int .i64 qq)).setCell ⟨Bo,0,none⟩ (.int .i64 (orL [ord qq 0,O]))).alloc o).drew).heap[b]? =W.heap[b]? :=fun b hb1 n1 n2=>
  (az _ _ _ (by simp;omega)).trans ((an _ _ _ _ (by simpa using n2)).trans ((an _ _ _ _ (by simpa using n1)).trans (hb.block b (by omega))))
 have hor:orL [ord qq 0,O]=if qq≠0 then ord qq 0 else O:=by
  have h0:(ord qq 0≠0)↔qq≠0:=by unfold ord;split<;>(try split)<;>omega
  simp only[orL];by_cases hz:qq≠0
  ·rw[if_pos (h0.2 hz),if_pos hz]
  ·rw[if_neg (fun h=>hz (h0.1 h)),if_neg hz];split
   ·rfl
   ·rename_i h;exact(Decidable.not_not.1 h).symm
 have hA:Below ((w'.setCell ⟨Bg,0,none⟩ (.int .i64 qq)).setCell ⟨Bo,0,none⟩ (.int .i64 (orL [ord qq 0,O]))).heap.size ((w'.setCell ⟨Bg,0,none⟩ (.int .i64 qq)).setCell ⟨Bo,0,none⟩ (.int .i64 (orL [ord qq 0,O]))) (((w'.setCell ⟨Bg,0,none⟩ (.int .i64 qq)).setCell ⟨Bo,0,none⟩ (.int .i64 (orL [ord qq 0,O]))).alloc o):=(ag _ _).alloc (af _) _;have l1:Bg<((w'.setCell ⟨Bg,0,none⟩ (.int .i64 qq)).setCell ⟨Bo,0,none⟩ (.int .i64 (orL [ord qq 0,O]))).heap.size:=by simp;omega
 have l2:Bo<((w'.setCell ⟨Bg,0,none⟩ (.int .i64 qq)).setCell ⟨Bo,0,none⟩ (.int .i64 (orL [ord qq 0,O]))).heap.size:=by simp;omega
 refine⟨hk,?_,?_,?_,?_,⟨?_,?_⟩,hPF.below hk.1,hLW.trans (hk.1.mono (by omega))⟩
 ·have e:((ps.take (pre++[x]).length).foldl abL go).1=qq:=by rw[hstep];simp only[abL,hm.1,hm.2];exact hq
  rw[e];exact(hA.cell (p:=⟨Bg,0,none⟩) l1).trans ((aq (a:=⟨Bg,0,none⟩) (an _ _ _ _ (by simpa using hgo))).trans (World.cell?_setCell_same' _ _ _ (by rw[g1];rfl)))
 ·rw[show ∀(X:World) (p:Addr),X.drew.frozen? p=X.frozen? p from fun _ _=>rfl,hA.frozen (p:=⟨Bg,0,none⟩) l1,World.frozen?_setCell,World.frozen?_setCell];exact g2
 ·have e:((ps.take (pre++[x]).length).foldl abL go).2=orL [ord qq 0,O]:=by rw[hstep,hor];simp only[abL,hm.1,hm.2,hq]
  rw[e];exact(hA.cell (p:=⟨Bo,0,none⟩) l2).trans (World.cell?_setCell_same' _ _ _ (by rw[aq (a:=⟨Bo,0,none⟩) (an _ _ _ _ (by simpa using fun e=>hgo e.symm)),r1];rfl))
 ·rw[show ∀(X:World) (p:Addr),X.drew.frozen? p=X.frozen? p from fun _ _=>rfl,hA.frozen (p:=⟨Bo,0,none⟩) l2,World.frozen?_setCell,World.frozen?_setCell];exact r2
 ·exact(aq (a:=⟨Bs,0,none⟩) (hl Bs hBs hBsg hBso)).trans hbi.1
 ·exact fun j hj=>(aq (a:=⟨g,j,none⟩) (hl g hg hgg hgO)).trans (hbi.2 j hj)
theorem ahU(w':World)(p:Addr)(v a b:Value)(t:TypeId):(((w'.setCell p v).alloc (.cells #[a,b] t)).drew).cell? ⟨w'.heap.size,0,none⟩=some a/\(((w'.setCell p v).alloc (.cells #[a,b] t)).drew).cell? ⟨w'.heap.size,1,none⟩=some b:=by
 have e:(w'.setCell p v).heap.size=w'.heap.size:=by simp
 rw[←e];generalize w'.setCell p v=X;exact⟨by simp,by simp⟩
theorem atQ{F:Fence}{n:Nat}{P:Program}{c:Code}{a:Act}{w:World}{Q:Exit->Act->World->Prop}(fr:Act)(S:World->Prop)(h:c.wpIn F n P (fun e a' w'=>e= .normal/\a'=fr/\S w') a w)(hq:∀w',S w'->Q .normal fr w'):c.wpIn F n P Q a w:=
 wpIn_mono h (fun e a' w' ⟨he,ha,hs⟩=>by rw[he,ha];exact hq w' hs)
theorem agt(x y:T)(hx:x.size<=1000000000000)(hy:y.size<=1000000000000)(aM:Nat)(a:Option Addr)(c:Nat)(a':Option Addr)(c':Nat)(w:World)(hn:aM<=w.heap.size)(hxw:(Lit.int .i64 x.head).wf=true)(hyw:(Lit.int .i64 y.head).wf=true)(hA:aab aM w x.args a c)(hB:aab aM w y.args a' c'):
 Calls Tryz.prog 234 #[tm x.head a x.args.length c,tm y.head a' y.args.length c'] w fun e w'=>e= .returned (.int .i64 (T.cmp x y))/\Below w.heap.size w w':=by
 have HA:=ae (hA.mono hn);have HB:=ae (hB.mono hn);clear hA hB hn aM;refine(callsIn_wide (n:=9)).1 ?_;refine callsIn_of_wp_marks Tryz.func234 rfl trivial ?_ rfl;simp only[Tryz.ntmps234,List.size_toArray,List.length_cons,List.length_nil,Nat.reduceAdd,Nat.reduceSub,Array.replicate_succ,Array.replicate_zero,List.push_toArray,List.append_toArray,List.nil_append,List.cons_append];have hb:Below w.heap.size w ((w.alloc (aaa x.head a x.args.length c)).alloc (aaa y.head a' y.args.length c')):=((ag _ w).alloc (af _) _).alloc (by simp) _;have hU:=akg x y hx w.heap.size a c a' c' _ hb.size hxw hyw (HA.out.below hb) (HB.out.below hb);have HU:=ae hU;have HBB:=ae hb;clear hU hb;refine wpIn_wide.2 ?_
 go_wp2_with fail
 refine HU.out.mono ?_;rintro e w2 ⟨v,fs,vs,rfl,hO,hF,hr,hb2⟩;have hw2:=HBB.out.trans (hb2.mono HBB.out.size);have hsz2:((w.alloc (aaa x.head a x.args.length c)).alloc (aaa y.head a' y.args.length c')).heap.size=w.heap.size+2:=by simp
 rw[hsz2] at hO hF;clear hsz2 hb2 HU HBB;have HW2:=ae hw2;have HR:=ae hr;clear hw2 hr;cases fs with
 |nil=>
  have hv:∃a1 c1,v= .slice a1 0 c1:=by
   rcases hO.2 with⟨h,h0⟩|⟨g,cap,cur,h,_⟩
   ·exact⟨_,_,h⟩
   ·exact⟨_,_,h⟩
  obtain⟨a1,c1,rfl⟩:=hv;clear hO hF;go_wp2;exact⟨_,results_tmp rfl _ _ _,by rw[T.cmp_zero.2 ((adp x y).1 (by simpa using HR.out))];rfl,HW2.out⟩
 |cons f fs=>
  obtain⟨g,cap,rfl⟩:=ownsRow_succ hO;cases vs with
  |nil=>exact hF.elim
  |cons v vs=>
   rw[if_neg (by simp)] at HR;obtain⟨x0,xs0,y0,ys0,rest,e0,hd,hfold⟩:=alC HR.out;obtain⟨hs1,hs2⟩:=anK HR.out;cases e0;obtain⟨v1,v2⟩:=v;obtain⟨⟨a1,c1,e1,hA1⟩,⟨a2,c2,e2,hA2⟩,hlen,hF2⟩:=hF;dsimp only at e1 e2 hA1 hA2 hlen;subst e1 e2;have hvl:fs.length=vs.length:=hF2.length;obtain⟨b1,o1,s1,p1,q1,rfl,hbn1,ht1,hw1,hd1,hd2,hsA1⟩:=hA1.elem (i:=0) (by simp);obtain⟨b2,o2,s2,p2,q2,rfl,hbn2,ht2,hw2,hd3,hd4,hsA2⟩:=hA2.elem (i:=0) (by simp);simp only[List.getElem?_cons_zero,aJ] at ht1 ht2;subst ht1 ht2;have hlc1:=hA1.1;have hlc2:=hA2.1;have hlm1:=hA1.2.1;have hlm2:=hA2.2.1;have hgl:=hO.lt g rfl
   have k1:w2.cell? ⟨g,fs.length*2,none⟩=some (.slice (some ⟨b1,o1,none⟩) (xs0.length+1) c1):=by
    rw[hO.cellAt _ (by omega),hvl,afL];rfl
   have k2:w2.cell? ⟨g,fs.length*2+1,none⟩=some (.slice (some ⟨b2,o2,none⟩) (ys0.length+1) c2):=by
    rw[hO.cellAt _ (by omega),hvl,afM];rfl
   have k5:w2.frozen? ⟨g,fs.length*2,none⟩=false:=hO.frozenAt _;have k6:w2.frozen? ⟨g,fs.length*2+1,none⟩=false:=hO.frozenAt _;have hfsl:=ad1 hO;unfold maxLen at hfsl;obtain⟨hfsl,hfsl2⟩:=hfsl;simp only[Nat.zero_mul,Nat.add_zero,List.length_cons] at hd1 hd2 hd3 hd4 hlc1 hlc2;unfold maxLen at hlm1 hlm2;have HO:=ae hO;have HF2:=ae hF2;have HD:=ae hd;have HFO:=ae hfold;have HA1:=ae hA1;have HA2:=ae hA2;have HSA1:=ae hsA1;have HSA2:=ae hsA2;have HVL:=ae hvl;have HLN:=ae hlen;have HWX:=ae hw1;have HWY:=ae hw2;clear hO hF2 hd hfold hA1 hA2 hsA1 hsA2 hvl hlen hw1 hw2;have hl1:b1<w2.heap.size:=World.block_lt_of_cell? w2 ⟨b1,o1,none⟩ hd1;have hl2:b2<w2.heap.size:=World.block_lt_of_cell? w2 ⟨b2,o2,none⟩ hd3;have hg1:g<w2.heap.size:=hgl.2;have hl1':b1<w2.heap.size+1:=by omega
   have hl2':b2<w2.heap.size+1:=by omega
   have hg1':g<w2.heap.size+1:=by omega
   have HGL:=ae hgl;clear hgl;go_wp2
   go_cut [7,8] from 13 (fun v7 v8 wx=>awP w2 x0 p1 q1 y0 p2 q2 v7 v8 wx)
   case first=>
    have n1:=World.new_ne w2 _ k1;have n2:=World.new_ne w2 _ k2;have n3:=World.new_ne w2 _ hd1;have n4:=World.new_ne w2 _ hd2;have n5:=World.new_ne w2 _ hd3;have n6:=World.new_ne w2 _ hd4
    go_region_held3 (fun w'=>w'.cell? ⟨g,fs.length*2,none⟩=some (.slice (some ⟨b1,o1,none⟩) (xs0.length+1) c1)/\w'.cell? ⟨g,fs.length*2+1,none⟩=some (.slice (some ⟨b2,o2,none⟩) (ys0.length+1) c2)/\w'.cell? ⟨b1,o1,none⟩=some (.int .i64 x0.head)/\w'.cell? ⟨b1,o1+1,none⟩=some (.slice p1 x0.args.length q1)/\w'.cell? ⟨b2,o2,none⟩=some (.int .i64 y0.head)/\w'.cell? ⟨b2,o2+1,none⟩=some (.slice p2 y0.args.length q2)) (go_keep) (fail)
    all_goals go_wp2
    all_goals go_meet
    ·exact⟨_,_,rfl,rfl,af _,by omega,by simp;omega,by simp,by simp[go_sem],by simp[go_sem],by simp[go_sem],by simp[go_sem],(((ag _ _).alloc (af _) _).alloc (by simp) _).drew⟩
    ·exact⟨_,_,rfl,rfl,by omega,af _,by simp,by simp;omega,by simp[go_sem],by simp[go_sem],by simp[go_sem],by simp[go_sem],(((ag _ _).alloc (af _) _).alloc (by simp) _).drew⟩
   case rest=>
    obtain⟨Bx,By,rfl,rfl,hBx,hBy,hBx2,hBy2,x1,x2,y1,y2,hbc⟩:=hcut;have k1':=(hbc.cell (p:=⟨g,fs.length*2,none⟩) hg1).trans k1;have k2':=(hbc.cell (p:=⟨g,fs.length*2+1,none⟩) hg1).trans k2;have k5':=(hbc.frozen (p:=⟨g,fs.length*2,none⟩) hg1).trans k5;have k6':=(hbc.frozen (p:=⟨g,fs.length*2+1,none⟩) hg1).trans k6;have HBC:=ae hbc;clear hbc k1 k2 k5 k6 hd1 hd2 hd3 hd4;have i1:(1:Int)<=(xs0.length:Int)+1:=by omega
    have i2:(1:Int)<=((xs0.length+1:Nat):Int):=by omega
    have i3:1<=xs0.length+1:=by omega
    have i4:(1:Int)<=(ys0.length:Int)+1:=by omega
    have i5:(1:Int)<=((ys0.length+1:Nat):Int):=by omega
    have i6:1<=ys0.length+1:=by omega
    have i7:(0:Int)<=(xs0.length:Int):=by omega
    have i8:(0:Int)<=(ys0.length:Int):=by omega
    go_wp2
    go_cut [] from 13 (fun wx=>as1 w w2 g cap xs0 ys0 fs vs Bx By x0 p1 q1 y0 p2 q2 wx)
    case first=>
     by_cases hz1:c1=1
     ·have hz1':xs0.length=0:=by omega
      have HZ1:=ae hz1';by_cases hz2:c2=1
      ·have hz2':ys0.length=0:=by omega
       have HZ2:=ae hz2';clear hz1' hz2';subst hz1 hz2;refine wp_region_noPanic ?_
       go_region
       refine NoPanic.normal ?_;go_wp2
       go_meet
       exact ai0 HO.out HVL.out HBC.out (afO HA1.out HZ1.out) (afO HA2.out HZ2.out) HF2.out HLN.out hBx hBy x1 x2 y1 y2 hg1 (by have:=HGL.out;omega)
      ·clear hz1';subst hz1;refine wp_region_noPanic ?_
       go_region
       refine NoPanic.normal ?_;go_wp2
       go_meet
       exact ai0 HO.out HVL.out HBC.out (afO HA1.out HZ1.out) (aer HA2.out hz2) HF2.out HLN.out hBx hBy x1 x2 y1 y2 hg1 (by have:=HGL.out;omega)
     ·by_cases hz2:c2=1
      ·have hz2':ys0.length=0:=by omega
       have HZ2:=ae hz2';clear hz2';subst hz2;refine wp_region_noPanic ?_
       go_region
       refine NoPanic.normal ?_;go_wp2
       go_meet
       exact ai0 HO.out HVL.out HBC.out (aer HA1.out hz1) (afO HA2.out HZ2.out) HF2.out HLN.out hBx hBy x1 x2 y1 y2 hg1 (by have:=HGL.out;omega)
      ·refine wp_region_noPanic ?_
       go_region
       refine NoPanic.normal ?_;go_wp2
       go_meet
       exact ai0 HO.out HVL.out HBC.out (aer HA1.out hz1) (aer HA2.out hz2) HF2.out HLN.out hBx hBy x1 x2 y1 y2 hg1 (by have:=HGL.out;omega)
    case rest=>
     clear x1 x2 y1 y2 k1' k2' k5' k6' i1 i2 i3 i4 i5 i6 i7 i8 hBx2 hBy2 HO HF2 HA1 HA2 HBC;obtain⟨u,hO,hF,x1,x2,y1,y2,hbl⟩:=hcut;have HO:=ae hO;have HF:=ae hF;have HBL:=ae hbl;clear hO hF hbl;have hBx2:=World.block_lt_of_cell? wc ⟨Bx,0,none⟩ x1;have hBy2:=World.block_lt_of_cell? wc ⟨By,0,none⟩ y1;dsimp only at hBx2 hBy2;have z1:x0.size<=1000000000000:=by simp only[ahQ,T.sizes] at hs1;omega
     have z2:y0.size<=1000000000000:=by simp only[ahR,T.sizes] at hs2;omega
     have hcb:w.heap.size+2+4<=wc.heap.size:=by have:=HGL.out;have:=HBL.out.size;omega
     have cX:∀W,Below wc.heap.size wc W->Calls Tryz.prog 243 #[tm x0.head p1 x0.args.length q1] W fun e w'=>e= .returned (.int .i64 (x0.size:Nat))/\Below W.heap.size W w':=fun W hW=>
      aiZ x0 z1 (w.heap.size+2+4) p1 q1 W (aE hcb hW.size) HWX.out (HSA1.out.below (HBL.out.trans (hW.mono hcb)))
     have cY:∀W,Below wc.heap.size wc W->Calls Tryz.prog 243 #[tm y0.head p2 y0.args.length q2] W fun e w'=>e= .returned (.int .i64 (y0.size:Nat))/\Below W.heap.size W w':=fun W hW=>
      aiZ y0 z2 (w.heap.size+2+4) p2 q2 W (aE hcb hW.size) HWY.out (HSA2.out.below (HBL.out.trans (hW.mono hcb)))
     have CX:=ae cX;have CY:=ae cY;clear cX cY;have hwrap:IntKind.i64.wrap ((x0.size:Int)-(y0.size:Int))=(x0.size:Int)-y0.size:=IntWalk.i64_in _ (by omega);go_wp2
     go_cut [9] from 13 (fun v9 wx=>as2 wc ((x0.size:Int)-y0.size) v9 wx)
     case first=>
      refine wp_region_noPanic ?_
      go_region_held3 (fun w'=>w'.cell? ⟨Bx,0,none⟩=some (.int .i64 x0.head)/\w'.cell? ⟨Bx,1,none⟩=some (.slice p1 x0.args.length q1)/\w'.cell? ⟨By,0,none⟩=some (.int .i64 y0.head)/\w'.cell? ⟨By,1,none⟩=some (.slice p2 y0.args.length q2)/\Below wc.heap.size wc w')
       (first
        |exact⟨x1,x2,y1,y2,ag _ _⟩
        |exact⟨x1,x2,y1,y2,(ag _ _).drew⟩
        |exact ao7 hBx2 hBy2 x1 x2 y1 y2 ‹_›
        |exact ao7 hBx2 hBy2 x1 x2 y1 y2 (Below.alloc ‹Below wc.heap.size wc _› (Below.size ‹Below wc.heap.size wc _›) _)
        |exact ao7 hBx2 hBy2 x1 x2 y1 y2 (((ag _ _).drew).alloc (af _) _)
        |exact ao7 hBx2 hBy2 x1 x2 y1 y2 (Below.setCell (p:=⟨_,0,none⟩) ‹Below wc.heap.size wc _› (af _) _)
        |exact ao7 hBx2 hBy2 x1 x2 y1 y2 (Below.setCell (p:=⟨_,0,none⟩) ‹Below wc.heap.size wc _› (Below.size ‹Below wc.heap.size wc _›) _))
       (first
        |(go_at_call_of 243 (Value.agg #[Value.int IntKind.i64 x0.head,Value.slice p1 x0.args.length q1]);refine(CX.out _ ?_).mono ?_;(exact(‹_/\_/\_/\_/\Below wc.heap.size wc _›).2.2.2.2);rintro e w' ⟨rfl,hb⟩;have hB':=Below.trans (‹_/\_/\_/\_/\Below wc.heap.size wc _›).2.2.2.2 (hb.mono (‹_/\_/\_/\_/\Below wc.heap.size wc _›).2.2.2.2.size);obtain⟨hcc,hff⟩:=arB hb;try (have hq1:wc.heap.size<w'.heap.size:=by have h1:=hb.size;simp at h1;omega))
        |(go_at_call_of 243 (Value.agg #[Value.int IntKind.i64 y0.head,Value.slice p2 y0.args.length q2]);refine(CY.out _ ?_).mono ?_;(exact(‹_/\_/\_/\_/\Below wc.heap.size wc _›).2.2.2.2);rintro e w' ⟨rfl,hb⟩;have hB':=Below.trans (‹_/\_/\_/\_/\Below wc.heap.size wc _›).2.2.2.2 (hb.mono (‹_/\_/\_/\_/\Below wc.heap.size wc _›).2.2.2.2.size);obtain⟨hcc,hff⟩:=arB hb;try (have hq1:wc.heap.size<w'.heap.size:=by have h1:=hb.size;simp at h1;omega)))
      ·refine NoPanic.normal ?_;go_wp2
       go_meet
       exact⟨_,rfl,Below.size (by assumption),by simp,by simp,by simp,Below.alloc (by assumption) (Below.size (by assumption)) _⟩
      ·refine NoPanic.normal ?_;go_wp2
       go_meet
       rename_i wA hbA hBA hcA hfA _;have hs1:=hb.size;simp at hs1;exact⟨_,rfl,hBA.size,by simp;omega,World.cell?_setCell_same' _ _ _ (by rw[hcc _ _ (by simp)];simp),by rw[World.frozen?_setCell,hff _ _ (by simp)];simp,hB'.setCell (p:=⟨_,0,none⟩) hBA.size _⟩
      ·refine NoPanic.normal ?_;go_wp2
       go_meet
       rename_i wA hbA hBA hcA hfA _;have hs1:=hb.size;have hs2:=hbA.size;simp at hs1 hs2;exact⟨_,rfl,af _,by simp;omega,World.cell?_setCell_same' _ _ _ (by rw[hcc _ _ hq1,hcA _ _ (by simp)];simp),by rw[World.frozen?_setCell,hff _ _ hq1,hfA _ _ (by simp)];simp,hB'.setCell (p:=⟨_,0,none⟩) (af _) _⟩
     case rest=>
      obtain⟨Bg,rfl,hBg,hBg2,g1,g2,hbg⟩:=hcut;have x1':=(hbg.cell (p:=⟨Bx,0,none⟩) hBx2).trans x1;have x2':=(hbg.cell (p:=⟨Bx,1,none⟩) hBx2).trans x2;have y1':=(hbg.cell (p:=⟨By,0,none⟩) hBy2).trans y1;have y2':=(hbg.cell (p:=⟨By,1,none⟩) hBy2).trans y2;have hO':=abA HO.out (hbg.block g (HO.out.lt g rfl).2);have hF':=HF.out.below (hbg.mono hcb);have hbl':=HBL.out.trans (hbg.mono hcb);have hcb':w.heap.size+2+4<=wc.heap.size:=aE hcb hbg.size;have hBx3:Bx<wc.heap.size:=aF hBx2 hbg.size;have hBy3:By<wc.heap.size:=aF hBy2 hbg.size;have hBg6:w.heap.size+2+4<=Bg:=aE hcb hBg;have hgBg:g<Bg:=by omega
      clear x1 x2 y1 y2 HO HF HBL CX CY hcb hBx2 hBy2 hbg hBg;have HO:=ae hO';have HF:=ae hF';have HBL:=ae hbl';clear hO' hF' hbl'
      have hlx:(x0.args.length:Int)<=1000000000000:=by
       have h1:=T.size_eq x0;have h2:=T.sizes_ge_length x0.args;omega
      have hly:(y0.args.length:Int)<=1000000000000:=by
       have h1:=T.size_eq y0;have h2:=T.sizes_ge_length y0.args;omega
      have hor:orL [ord ((x0.size:Int)-y0.size) 0,ord x0.head y0.head,ord x0.args.length y0.args.length]=T.cmp x0 y0:=by rw[ao8];exact akf HD.out
      have HOR:=ae hor;clear hor;go_wp2
      go_cut [10] from 13 (fun v10 wx=>as2 wc (T.cmp x0 y0) v10 wx)
      case first=>
       refine wp_region_noPanic ?_
       go_region_held3 (fun w'=>w'.cell? ⟨Bx,0,none⟩=some (.int .i64 x0.head)/\w'.cell? ⟨Bx,1,none⟩=some (.slice p1 x0.args.length q1)/\w'.cell? ⟨By,0,none⟩=some (.int .i64 y0.head)/\w'.cell? ⟨By,1,none⟩=some (.slice p2 y0.args.length q2)/\w'.cell? ⟨Bg,0,none⟩=some (.int .i64 ((x0.size:Int)-y0.size))/\Below wc.heap.size wc w')
        (first
         |exact anL hBx3 hBy3 hBg2 x1' x2' y1' y2' g1 (ag _ _)
         |exact anL hBx3 hBy3 hBg2 x1' x2' y1' y2' g1 ((ag _ _).drew)
         |exact anL hBx3 hBy3 hBg2 x1' x2' y1' y2' g1 (((ag _ _).drew).alloc (af _) _)
         |exact anL hBx3 hBy3 hBg2 x1' x2' y1' y2' g1 ((((ag _ _).drew).alloc (af _) _).alloc (by simp) _)
         |exact anL hBx3 hBy3 hBg2 x1' x2' y1' y2' g1 (((ag _ _).alloc (af _) _).drew)
         |exact anL hBx3 hBy3 hBg2 x1' x2' y1' y2' g1 ((((ag _ _).alloc (af _) _).alloc (by simp) _).drew))
        (first
         |(go_at_call 245;refine(abQ _ _ _).mono ?_;rintro e w' ⟨rfl,rfl⟩)
         |(go_at_call 244;refine(atO _ _ (ord ((x0.size:Int)-y0.size) 0) (ord x0.head y0.head) (ord x0.args.length y0.args.length) _ ?_ ?_ ?_).mono ?_;(simp);(simp);(simp);rintro e w' ⟨rfl,rfl⟩))
       all_goals
        refine NoPanic.normal ?_;go_wp2
        go_meet
        refine⟨_,rfl,by omega,(by first|(simp;done)|(simp;omega)),by rw[←HOR.out];simp,by simp,((((ag _ _).alloc (af _) _).alloc (by simp) _).drew)⟩
      case rest=>
       obtain⟨Bo,rfl,hBo,hBo2,r1,r2,hbo⟩:=hcut;have g1':=(hbo.cell (p:=⟨Bg,0,none⟩) hBg2).trans g1;have g2':=(hbo.frozen (p:=⟨Bg,0,none⟩) hBg2).trans g2;have hO':=abA HO.out (hbo.block g (HO.out.lt g rfl).2);have hF':=HF.out.below (hbo.mono hcb');have hbl':=HBL.out.trans (hbo.mono hcb');have hBg3:Bg<wc.heap.size:=aF hBg2 hbo.size;have hBo6:w.heap.size+2+4<=Bo:=aE hcb' hBo;have hcb2:w.heap.size+2+4<=wc.heap.size:=aE hcb' hbo.size;have hgo:Bg≠Bo:=by omega
       have hgBo:g<Bo:=by omega
       clear g1 g2 HO HF HBL hbo x1' x2' y1' y2' hBx3 hBy3 hcb' hBg2;have HO:=ae hO';have HF:=ae hF';have HBL:=ae (HW2.out.trans (hbl'.mono (by omega)));clear hO' hF' hbl'
       go_wp2_with (go_at_call 246;refine(akh _ _ _ _).mono ?_;rintro e w' ⟨rfl,rfl⟩)
       refine(wpIn_wide (n:=9)).1 ?_;have hs:(wc.alloc (.cells #[.slice (some ⟨g,0,none⟩) (fs.length+1) cap] 210)).heap.size=wc.heap.size+1:=by simp
       have hba:Below wc.heap.size wc (wc.alloc (.cells #[.slice (some ⟨g,0,none⟩) (fs.length+1) cap] 210)):=(ag _ _).alloc (af _) _;have hbs:(wc.alloc (.cells #[.slice (some ⟨g,0,none⟩) (fs.length+1) cap] 210)).cell? ⟨wc.heap.size,0,none⟩=some (.slice (some ⟨g,0,none⟩) (fs.length+1) cap):=by simp
       have hOa:=HO.out.alloc (.cells #[.slice (some ⟨g,0,none⟩) (fs.length+1) cap] 210);have hFa:=HF.out.below (hba.mono hcb2);have g1'':=(hba.cell (p:=⟨Bg,0,none⟩) hBg3).trans g1';have g2'':=(hba.frozen (p:=⟨Bg,0,none⟩) hBg3).trans g2';have r1'':=(hba.cell (p:=⟨Bo,0,none⟩) hBo2).trans r1;have r2'':=(hba.frozen (p:=⟨Bo,0,none⟩) hBo2).trans r2;have hLa:=HBL.out.trans (hba.mono (by omega));generalize hbsn:wc.heap.size=Bs at*;generalize wc.alloc (.cells #[.slice (some ⟨g,0,none⟩) (fs.length+1) cap] 210)=W3 at*;have hgl3:=(hOa.lt g rfl).2;have hvs1:(u::vs).length=fs.length+1:=by have:=HVL.out;simp;omega
       have hinv0:ags Bs g cap (u::vs) W3:=⟨by rw[hvs1];exact hbs,fun j hj=>hOa.cellAt j (by rw[hvs1] at hj;omega)⟩
       refine ajX (α:=Value×Value) rfl (by omega) (gf:=251) (lb:=#[.pointer (some ⟨Bs,0,none⟩)]) rfl trivial (enters_of Tryz.func251 (by kernel_rfl) rfl)
        (arA Fence.wide 8 trivial rfl (by omega) Bs (w.heap.size+2+4) g cap (u::vs) (by rw[hvs1];omega) W3) (ag _ _) (by omega) (fun _ _ _ _ h=>by rw[h.2];rfl) (fun _ _ _ _ _ h _=>h)
        (au2 w Bg Bo Bs g cap (((xs0,ys0)::fs)) (u::vs) ((x0.size:Int)-y0.size,T.cmp x0 y0)) (fun _ _ _=>False)
        (au2.abides (by omega) (by omega) (by omega) (by omega) (by omega)) (fun _ _ _ _ h _=>h)
        ⟨g1'',g2'',r1'',r2'',hinv0,hFa,hLa⟩ (fun _ _ h=>h.2.2.2.2.1)
        (fun a0 x as' a' W=>∃Bp,W3.heap.size<=Bp/\W.cell? ⟨Bp,0,none⟩=some x.1/\W.cell? ⟨Bp,1,none⟩=some x.2/\∃q,a'={ tmps:=((a0.tmps.setIfInBounds 75 q).setIfInBounds 76 (.agg #[x.1,x.2])).setIfInBounds 12 (.pointer (some ⟨Bp,0,none⟩)),defers:=[]})
        (fun x as' a' W l o o' hl ho hoc ⟨Bp,h1,h2,h3,h4⟩=>⟨Bp,h1,cell_kept h2 (grownBy_putObj' W l o') (fun r e=>by cases e;exact⟨o,ho,hoc⟩),cell_kept h3 (grownBy_putObj' W l o') (fun r e=>by cases e;exact⟨o,ho,hoc⟩),h4⟩) ?assign ?body ?done ?stop
       case assign=>
        rintro l pre x as' W K hsz hi ⟨hpre,rfl⟩ hK;obtain⟨p,_,⟨a1,c1,e1,_⟩,⟨a2,c2,e2,_⟩⟩:=ahk.at_pre hi.2.2.2.2.2.1 hpre;obtain⟨v1,v2⟩:=x;dsimp only at e1 e2;subst e1 e2;simp only[au9,List.setIfInBounds_toArray,List.set]
        gi_wp2
        refine hK _ (W.alloc (.cells #[.slice a1 p.1.length c1,.slice a2 p.2.length c2] 243)) ((Kept.refl _ _ _).alloc (by omega) _) (au2.abides (B:=W.heap.size) (by omega) (by omega) (by omega) (by omega) (by omega) _ _ _ hi ((ag _ _).alloc (af _) _)) ⟨W.heap.size,hsz,by simp,by simp,?_⟩;apply Exists.intro;simp only[List.setIfInBounds_toArray,List.set]
        try rfl
       case body=>
        rintro l pre x as' a' W hsz ⟨g1,g2,r1,r2,hbi,hPF,hLW⟩ ⟨hpre,_⟩ ⟨Bp,hBp,hp1,hp2,q,rfl⟩;simp only[List.setIfInBounds_toArray,List.set];obtain⟨p,hpk,⟨a1,c1,e1,hA1⟩,⟨a2,c2,e2,hA2⟩⟩:=hPF.at_pre hpre;obtain⟨v1,v2⟩:=x;dsimp only at e1 e2 hp1 hp2;subst e1 e2;have hb1:=as3 hpk;have hstep:((((xs0,ys0)::fs).take (pre++[(Value.slice a1 p.1.length c1,Value.slice a2 p.2.length c2)]).length).foldl abL ((x0.size:Int)-y0.size,T.cmp x0 y0))=abL ((((xs0,ys0)::fs).take pre.length).foldl abL ((x0.size:Int)-y0.size,T.cmp x0 y0)) p:=arC hpk;have hgb:=amE ((xs0,ys0)::fs) pre.length ((x0.size:Int)-y0.size) (T.cmp x0 y0);generalize hGO:((((xs0,ys0)::fs).take pre.length).foldl abL ((x0.size:Int)-y0.size,T.cmp x0 y0))=go at*;obtain⟨G,O⟩:=go;dsimp only at g1 r1 hgb;have hsum1:ahQ ((xs0,ys0)::fs)<=x.size:=by simp only[ahQ,T.sizes] at hs1 ⊢;omega
        have hsum2:ahR ((xs0,ys0)::fs)<=y.size:=by simp only[ahR,T.sizes] at hs2 ⊢;omega
        have hG1: -3000000000000<=G/\G<=3000000000000:=by omega
        have hS1:T.sizes p.1<=1000000000000:=by omega
        have hS2:T.sizes p.2<=1000000000000:=by omega
        have hWs:w.heap.size+2+4<=W.heap.size:=by omega
        have cA:∀W',Below W.heap.size W W'->Calls Tryz.prog 247 #[.slice a1 p.1.length c1] W' fun e w''=>e= .returned (.int .i64 (T.sizes p.1:Nat))/\Below W.heap.size W w'':=fun W' hW'=>
         (aeq p.1 hS1 (w.heap.size+2+4) a1 c1 W' (aE hWs hW'.size) (hA1.below (hW'.mono hWs))).mono fun _ _ h=>⟨h.1,hW'.trans (h.2.mono hW'.size)⟩
        have cB:∀W',Below W.heap.size W W'->Calls Tryz.prog 247 #[.slice a2 p.2.length c2] W' fun e w''=>e= .returned (.int .i64 (T.sizes p.2:Nat))/\Below W.heap.size W w'':=fun W' hW'=>
         (aeq p.2 hS2 (w.heap.size+2+4) a2 c2 W' (aE hWs hW'.size) (hA2.below (hW'.mono hWs))).mono fun _ _ h=>⟨h.1,hW'.trans (h.2.mono hW'.size)⟩
        have CA:=ae cA;have CB:=ae cB;have hBgW:Bg<W.heap.size:=by omega
        have hBoW:Bo<W.heap.size:=by omega
        have hBpW:Bp<W.heap.size:=World.block_lt_of_cell? W ⟨Bp,0,none⟩ hp1;have HBI:=ae hbi;have HPF:=ae hPF;have HLW:=ae hLW;have HST:=ae hstep;have HSZ:=ae hsz;have hne1:Bp≠Bg:=by omega
        have hne2:Bp≠Bo:=by omega
        generalize hm1:T.sizes p.1=m1 at*;generalize hm2:T.sizes p.2=m2 at*;have HM:=ae (And.intro hm1 hm2);clear cA cB hbi hPF hLW hstep hsz hb1 hgb hA1 hA2 hpk hm1 hm2 hGO hs1 hs2 hsum1 hsum2 HFO HOR HA HB HR HW2 HD HSA1 HSA2 HWX HWY HO HF HBL HGL hinv0 hFa hOa g1'' g2'' r1'' r2'' g1' g2' hba hbs hLa;have hw1:IntKind.i64.wrap ((m1:Int)-(m2:Int))=(m1:Int)-m2:=IntWalk.i64_in _ (by omega);have hw2:IntKind.i64.wrap (G+((m1:Int)-(m2:Int)))=G+((m1:Int)-m2):=IntWalk.i64_in _ (by omega);have hgo':Bo≠Bg:=fun e=>hgo e.symm
        gi_wp2
        have hmix:Tryz.prog.follows .mixedOrders=true:=by kernel_rfl
        apply atQ (S:=fun w''=>∃w',Below W.heap.size W w'/\w''=w'.setCell ⟨Bg,0,none⟩ (.int .i64 (G+((m1:Int)-m2))))
        case h=>
         gi_region_with_o (refine⟨trivial,?_⟩;gi_at_call 247;(first|(with_reducible refine(CallsIn.inRound l (callsIn_wide.2 (CA.out _ ?_))).mono ?_)|(with_reducible refine(CallsIn.inRound l (callsIn_wide.2 (CB.out _ ?_))).mono ?_));(first|assumption|exact(ag _ _).drew|exact ag _ _);rintro e w' ⟨rfl,hB'⟩;obtain⟨hcc,hff⟩:=arB hB')
         all_goals exact⟨rfl,rfl,_,‹_›,rfl⟩
        case hq=>
         rintro _ ⟨w',hB',rfl⟩;obtain⟨hcc,hff⟩:=arB hB';have hsw:W.heap.size<=w'.heap.size:=hB'.size;have t1:w'.cell? ⟨Bg,0,none⟩=some (.int .i64 G):=(hcc _ _ hBgW).trans g1;have t2:w'.cell? ⟨Bo,0,none⟩=some (.int .i64 O):=(hcc _ _ hBoW).trans r1;have t3:w'.frozen? ⟨Bo,0,none⟩=false:=(hff _ _ hBoW).trans r2;have t4:w'.frozen? ⟨Bg,0,none⟩=false:=(hff _ _ hBgW).trans g2;have t5:Bo<w'.heap.size:=by omega
         have t6:Bg<w'.heap.size:=by omega
         have HBB':=ae hB';clear hcc hff hB';obtain⟨qq,hq⟩:∃qq,G+((m1:Int)-m2)=qq:=⟨_,rfl⟩;rw[hq] at hw2 ⊢;have HQ:=ae hq;clear hq
         gi_wp2
         gi_region_with_o (first
          |(refine⟨trivial,?_⟩;gi_at_call 245;refine(CallsIn.inRound l (callsIn_wide.2 (abQ _ _ _))).mono ?_;rintro e w'' ⟨rfl,rfl⟩)
          |(refine⟨trivial,?_⟩;gi_at_call 244;refine(CallsIn.inRound l (callsIn_wide.2 (atP _ _ (ord qq 0) O _ (ahU _ _ _ _ _ _).1 (ahU _ _ _ _ _ _).2))).mono ?_;rintro e w'' ⟨rfl,rfl⟩))
         all_goals (try gi_wp2)
         all_goals first
          |exact arD _ HBI.out HPF.out HLW.out HBB'.out HSZ.out hBg6 hBo6 (by omega) (by omega) hgo (by omega) (by omega) (by omega) (by omega) (by omega) (by omega) HST.out HM.out HQ.out t1 t4 t2 t3
          |trace_state
       case done=>
        rintro D xs W hD rfl ⟨g1,g2,r1,r2,hbi,hPF,hLW⟩ hK;rw[List.take_of_length_le (by rw[hvs1];simp),HFO.out] at r1;go_wp2;refine⟨by simp,.inl ⟨_,_,rfl,run_takeDeferred hK,?_⟩⟩;refine⟨_,results_tmp rfl _ _ _,rfl,hLW.trans (aaw _ hK (by omega))⟩
       case stop=>
        rintro D c pre W _ _ h _;exact h.elim
end Go.Proofs.YtabfapijgfjflaaGreat
namespace Go.Proofs.YtabfapijgfjflaaGreat
open Go.RowKit
theorem ahV(ts:List T)(hts:ts.length<=1000000000000)(aM:Nat)(a:Option Addr)(c:Nat)(w:World)(hn:aM<=w.heap.size)(hA:aab aM w ts a c):
 Calls Tryz.prog 133 #[.slice a ts.length c] w fun e w'=>∃a2 c2,e= .returned (.slice a2 ts.length c2)/\af9 aM w.heap.size w' ts a2 c2/\Below w.heap.size w w'/\(a2=none->c2=0):=by
 have q22:∀(w:World) (a:Option Addr) (n c n' c':Nat),(binOp .eql 58 (.slice a n c) (.slice none n' c')).run Tryz.prog w= .ok (.bool a.isNone) w:=fun w a n c n' c'=>Lib.run_eql_slice_nil w _ _ a n c n' c' Tryz.underlying58;cases a with
 |none=>
  have h0:ts=[]:=by rcases hA.2.2 with h|⟨_,_,h,_⟩;exact h;cases h
  subst h0;go_enter Tryz.func133,Tryz.ntmps133;go_wp2;go_ret;exact⟨none,0,rfl,⟨by simp,by simp[maxLen],.inl rfl⟩,ag _ _,fun _=>rfl⟩
 |some ad=>
  have hnews:∃news:List Value,news.length=ts.length*2/\(∀j u,news[j]? =some u->w.cell? (ad.add j)=some u)/\(∀u∈news,u.oneCell'=true)/\
   ∀(W:World) (g q:Nat),Below aM w W->(∀j u,news[j]? =some u->W.cell? ⟨g,q+j,none⟩=some u)->aar aM W ts g q:=by
   rcases hA.2.2 with rfl|⟨b,o,h,hb,hrow⟩
   ·exact⟨[],rfl,by simp,by simp,fun _ _ _ _ _=>trivial⟩
   ·cases h;obtain⟨news,h1,h2,h3,h4⟩:=aoM ts b o hrow;exact⟨news,h1,fun j u hj=>by rw[show((⟨b,o,none⟩:Addr).add j)=⟨b,o+j,none⟩ from by unfold Addr.add;split<;>simp_all];exact h2 j u hj,h3,h4⟩
  obtain⟨news,h1,h2,h3,h4⟩:=hnews;have hlt:∀j u,news[j]? =some u->(ad.add j).block<w.heap.size:=fun j u hj=>World.block_lt_of_cell? w _ (h2 j u hj);have H2:=ae h2;have H3:=ae h3;have H4:=ae h4;have H1:=ae h1;have HLT:=ae hlt;obtain⟨i0,hi,hz0,hz1,hz2⟩:=info_parts acX;clear h1 h2 h3 h4 hA hlt;go_enter Tryz.func133,Tryz.ntmps133
  go_wp2_with (at_builtin;refine aaG ?_)
  refine ae ?_
  refine wpList_append_own _ rfl _ _ 58 rfl w.heap.size 60 i0 (.agg #[.int .i64 0,.slice none 0 0]) 2 32 Tryz.underlying58 hi hz0 hz1 hz2 rfl (by decide) (.slice (some ⟨w.heap.size,0,none⟩) 0 0) 0 [] rfl
   (World.ownsRow_made w #[] 0 (af _) (by simp[maxLen]) rfl) ad ts.length c news rfl H1.out (fun j u hj=>(aq (az w _ _ (HLT.out j u hj))).trans (H2.out j u hj)) H3.out (by unfold maxLen;omega) (by omega) (by simp) ?_
  intro v' w2 hown hgr _;have hb2:Below w.heap.size w w2:=((ag _ w).alloc (af _) _).grown hgr (by simp) (by intro k hk;simp[Value.ownBlock] at hk;omega);have HB:=ae hb2;have HO:=ae hown;clear hown hgr hb2;go_wp2;go_ret;have hown:=HO.out;simp only[Nat.zero_add,List.nil_append] at hown;obtain⟨a2,c2,e,hr⟩:=aht (HB.out.mono hn) hown H4.out;refine⟨a2,c2,?_,hr,HB.out,?_⟩
  ·subst e;rfl
  ·intro hn;subst hn
   rcases hown.2 with⟨h,_⟩|⟨g,cap,cur,h,_⟩
   ·rw[e] at h;simp at h;exact h.2
   ·rw[e] at h;simp at h
theorem agu(ts:List T)(hts:ts.length<=1000000000000)(aM:Nat)(a:Option Addr)(c:Nat)(w:World)(hn:aM<=w.heap.size)(hA:aab aM w ts a c):
 Calls Tryz.prog 133 #[.slice a ts.length c] w (aoN aM ts w):=
 (ahV ts hts aM a c w hn hA).mono fun _ _ ⟨a2,c2,h1,h2,h3,_⟩=>⟨a2,c2,h1,h2,h3⟩
theorem axl{α:Type}(k:α->T):Go.Sort.SWO (ltOf fun x y=>T.cmp (k y) (k x)) where
 irrefl x:=by show decide (T.cmp (k x) (k x)<0)=false;rw[T.cmp_self];rfl
 trans x y z h1 h2:=by
  simp only[ltOf,decide_eq_true_eq] at*;exact T.cmp_trans _ _ _ h2 h1
 ntrans x y z h1 h2:=by
  simp only[ltOf,decide_eq_false_iff_not] at*;have e1:=T.cmp_neg (k x) (k y);have e2:=T.cmp_neg (k y) (k z);have e3:=T.cmp_neg (k x) (k z);have:=T.cmp_le_trans (x:=k z) (y:=k y) (z:=k x);intro h;have h3:=(T.cmp_le_trans (x:=k x) (y:=k y) (z:=k z) (by omega) (by omega)).1;omega
theorem atS(t u:T)(ht:t.size<=1000000000000)(hu:u.size<=1000000000000)(aM:Nat)(a:Option Addr)(c:Nat)(a':Option Addr)(c':Nat)(w:World)(hn:aM<=w.heap.size)(hwt:(Lit.int .i64 t.head).wf=true)(hwu:(Lit.int .i64 u.head).wf=true)(hA:aab aM w t.args a c)(hA':aab aM w u.args a' c'):
 Calls Tryz.prog 242 #[tm t.head a t.args.length c,tm u.head a' u.args.length c'] w fun e w'=>e= .returned (.int .i64 (T.cmp u t))/\Below w.heap.size w w':=by
 have hF:Below w.heap.size w ((w.alloc (aaa t.head a t.args.length c)).alloc (aaa u.head a' u.args.length c')):=((ag _ w).alloc (af _) _).alloc (by simp) _;have HC:=ae (agt u t hu ht aM a' c' a c _ (aE hn hF.size) hwu hwt (hA'.below (hF.mono hn)) (hA.below (hF.mono hn)));have HF:=ae hF;clear hF hA hA';go_enter Tryz.func242,Tryz.ntmps242
 go_wp2_with fail
 refine HC.out.mono ?_;rintro e w2 ⟨rfl,hb2⟩;have HB:=ae (HF.out.trans (hb2.mono HF.out.size));clear hb2;go_wp2;go_ret;exact⟨rfl,HB.out⟩
def arE(us:List T):Prop:=us.Pairwise fun x y=>0<=T.cmp x y
def avl(ts:List T)(w:World)(e:Ending)(w':World):Prop:=
 ∃us a c,e= .returned (.slice a us.length c)/\us.Perm ts/\arE us/\aab w'.heap.size w' us a c/\(a=none->c=0)/\Below w.heap.size w w'
theorem acD(ts:List T)(hts:ts.length<=1000000000000)(hsz:∀t∈ts,t.size<=1000000000000)(aM:Nat)(a:Option Addr)(c:Nat)(w:World)(hn:aM<=w.heap.size)(hA:aab aM w ts a c):
 Calls Tryz.prog 233 #[.slice a ts.length c] w (avl ts w):=by
 have HC:=ae (ahV ts hts aM a c w hn hA);have eg:=enters_of Tryz.func242 (by kernel_rfl) rfl
 have HS:=ae (fun(g cap:Nat) (W:World) (hg1:w.heap.size<=g) (hg2:g<W.heap.size) (hR:aar aM W ts g 0) (hfr:∀j,j<ts.length*2->W.frozen? ⟨g,j,none⟩=false)=>
  ao4 242 eg (fun x y=>T.cmp y x) axl ts hts aM g cap W (by omega) hg2 hR hfr (fun x y a c a' c' X hx hy hX hxw hyw hxA hyA=>
   atS x y (hsz x hx) (hsz y hy) aM a c a' c' X (by have:=hX.size;omega) hxw hyw hxA hyA))
 have HZ:=ae (fun(p:Option Addr) (cap:Nat) (W:World)=>ahS p cap (.func (.func 242) #[] #[]) W);have HAl:=ae hts;clear hA hts;go_enter Tryz.func233,Tryz.ntmps233
 go_wp2_with fail
 refine HC.out.mono ?_;rintro e w2 ⟨a2,c2,rfl,⟨h1,h2,h3⟩,hb2,hnl⟩;have HB2:=ae hb2;have HNL:=ae hnl;clear hnl
 rcases h3 with h3|⟨g,cur,rfl,hg,hh,hcs,hrow⟩
 ·subst h3;have HP:=ae (And.intro h1 h2);clear hb2 h1 h2
  go_wp2_with fail
  refine(HZ.out _ _ _).mono ?_;rintro e w3 ⟨rfl,hw3⟩;subst hw3;go_wp2;go_ret;exact⟨[],a2,c2,rfl,List.Perm.refl _,List.Pairwise.nil,⟨HP.out.1,HP.out.2,.inl rfl⟩,HNL.out,HB2.out⟩
 ·have hgl:g<w2.heap.size:=(aj.1 hh).1;have HS2:=ae (HS.out g c2 w2 hg hgl hrow (fun j hj=>by simp[World.frozen?,hh]));have HP:=ae (And.intro h1 h2);have HG:=ae hg;clear hb2 h1 h2 hh hcs hrow hg
  go_wp2_with fail
  refine HS2.out.mono ?_;rintro e w3 ⟨rfl,us,hp,hd,hr3,hgr⟩;have HUS:=ae (And.intro hp hd);have HR:=ae hr3;have HGR:=ae hgr;have HL:=ae hp.length_eq;clear hp hd hr3 hgr;go_wp2;go_ret;have hb3:Below w.heap.size w w3:=HB2.out.grown HGR.out HB2.out.size (fun k e=>by cases e;exact HG.out);refine⟨us,_,c2,by rw[HL.out];rfl,HUS.out.1,HUS.out.2,⟨by rw[HL.out];exact HP.out.1,HP.out.2,.inr ⟨g,0,rfl,aF hgl HGR.out.size,HR.out.mono (aE hn hb3.size)⟩⟩,(fun e=>by cases e),hb3⟩
end Go.Proofs.YtabfapijgfjflaaGreat
