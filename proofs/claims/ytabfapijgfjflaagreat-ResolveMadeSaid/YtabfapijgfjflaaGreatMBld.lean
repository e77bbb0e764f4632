import Derived.Test.YtabfapijgfjflaaGreatMMea
import Derived.Test.YtabfapijgfjflaaGreatMQBp
import Derived.Test.YtabfapijgfjflaaGreatMQBb
import Derived.Test.YtabfapijgfjflaaGreatMAl
set_option linter.unusedVariables false
set_option linter.unusedSimpArgs false
set_option maxRecDepth 100000
set_option maxHeartbeats 8000000
namespace Go.Proofs.YtabfapijgfjflaaGreat
open Go.RowKit Go.Maps
def amp(f:List SyU->Int->Option (T×List SyU)):List T->List Int->List SyU->Option (List T×List SyU)
 |acc,[],S=>some (acc,S)
 |acc,a::as_,S=>
  match f S a with
  |none=>none
  |some (t,S')=>amp f (acc++[t]) as_ S'
def af1(R:Int->Int):Nat->List SyU->Int->Option (T×List SyU)
 |0,_,_=>none
 |f+1,S,v=>
  if R v<256 then some (vt (R v),S) else
   match amp (af1 R f) [] (aac S (R v)).2 (aac S (R v)).1 with
   |none=>none
   |some (ts,S')=>some (.node (aa5 S (R v)).head ts,S')
def ant(lo:Nat)(W:World)(b:Nat):Prop:=lo<=b/\∃cs,W.heap[b]? =some (.cells cs 60 (0,0))
def okR(lo:Nat)(v:Value)(W:World)(b:Nat):Prop:=ant lo W b/\v.ownBlock≠some b
section
variable {B L aM g:Nat} {W:World} {sv mv vv:Value} {syms:List SyU} {n:Nat} {R:Int->Int} {vars:List Int}
theorem acQ(hG:IsG B L aM g W sv mv vv syms n R vars){b:Nat}{cs:Array Value}(hb:W.heap[b]? =some (.cells cs 60 (0,0))):¬afX g sv mv vv b/\¬aaW B L W vv b:=by
 refine⟨fun e=> ?_,fun e=> ?_⟩
 ·rcases e with rfl|e|e|e
  ·rw[hG.heap] at hb;simp at hb
  ·obtain⟨ys,r1,_⟩:=hG.rows;obtain⟨_,_,c',hc'⟩:=rowBlock r1 e;rw[hc'] at hb;simp at hb
  ·obtain⟨_,_,es,cl,hc'⟩:=hG.links.map_block e;rw[hc'] at hb;cases hb
  ·obtain⟨_,_,c',hc'⟩:=rowBlock hG.vrow e;rw[hc'] at hb;simp at hb
 ·obtain⟨_,_,_,cur,hc⟩:=e;rw[hc] at hb;simp at hb
theorem aa7(hG:IsG B L aM g W sv mv vv syms n R vars){b:Nat}{cs:Array Value}(hb:W.heap[b]? =some (.cells cs 60 (0,0))){sv' mv' vv':Value}{W':World}(st:GStep g sv mv vv W sv' mv' vv' W'):W'.heap[b]? =W.heap[b]? :=
 st.block b (aj.1 hb).1 (acQ hG hb).1
theorem ant.step(hG:IsG B L aM g W sv mv vv syms n R vars){lo b:Nat}(h:ant lo W b){sv' mv' vv':Value}{W':World}(st:GStep g sv mv vv W sv' mv' vv' W'):W'.heap[b]? =W.heap[b]? /\ant lo W' b:=by
 obtain⟨h1,cs,h2⟩:=h;have:=aa7 hG h2 st;exact⟨this,h1,cs,this.trans h2⟩
theorem IsG.setTerm(h:IsG B L aM g W sv mv vv syms n R vars){b o:Nat}{cs:Array Value}(hb:W.heap[b]? =some (.cells cs 60 (0,0)))(hn:aM<=b)(u:Value):IsG B L aM g (W.setCell ⟨b,o,none⟩ u) sv mv vv syms n R vars:=
 h.keptBut fun i hi=>an _ _ _ _ (fun e=>by
  have e:i=b:=e;subst e
  rcases hi with hi|hi|hi
  ·omega
  ·exact(acQ h hb).1 hi
  ·exact(acQ h hb).2 hi)
theorem GStep.setVar{g:Nat}{sv mv vv sv' mv' vv':Value}{w W:World}(h:GStep g sv mv vv w sv' mv' vv' W){rb o:Nat}(hrb:w.heap.size<=rb)(u:Value):GStep g sv mv vv w sv' mv' vv' (W.setCell ⟨rb,o,none⟩ u):=
 ⟨h.os,h.tape,h.output,by simpa using h.size,fun i hi hn=>(an _ _ _ _ (show i≠rb by omega)).trans (h.block i hi hn),h.own⟩
theorem IsG.growTerm(h:IsG B L aM g W sv mv vv syms n R vars){base k:Nat}{v:Value}{xs:List Value}(hr:W.ownsRow base 60 2 v k xs){ob:Obj}{w9:World}(hg:(W.alloc ob).grownBy w9 v.ownBlock)(hn:aM<=base)(hB:aM<=W.heap.size):IsG B L aM g w9 sv mv vv syms n R vars:=by
 have hk:∀i,i<W.heap.size->v.ownBlock≠some i->w9.heap[i]? =W.heap[i]? :=fun i hi hs=>(hg.block i (by simp;omega) (fun e=>hs e.symm)).trans (az W ob i hi);refine h.keptBut fun i hi=> ?_
 have hv:v.ownBlock≠some i:=fun e=>by
  obtain⟨h1,_,cur,hc⟩:=rowBlock hr e
  rcases hi with hi|hi|hi
  ·omega
  ·exact(acQ h hc).1 hi
  ·exact(acQ h hc).2 hi
 rcases hi with hi|hi|hi
 ·exact hk i (by omega) hv
 ·exact hk i (h.own_lt hi) hv
 ·exact hk i hi.lt hv
end
def aiJ(B aM g:Nat)(sv mv vv:Value)(n:Nat)(R:Int->Int)(vars:List Int)(S:List SyU)(x:T)(S':List SyU)(w:World)(e:Ending)(w':World):Prop:=
 ∃a c sv',e= .returned (tm x.head a x.args.length c)/\(Lit.int .i64 x.head).wf=true/\aaj (ant w.heap.size w') w' x.args a c/\IsG B w'.heap.size aM g w' sv' mv vv S' n R vars/\GOk S' R/\S.length<=S'.length/\GStep g sv mv vv w sv' mv vv w'
def awG(B aM g:Nat)(sv mv vv:Value)(n:Nat)(R:Int->Int)(vars:List Int)(f:Nat)(as_:List Int)(r1:Value)(X:Option (List T×List SyU))(h:Int)(rb tb N1:Nat)(w:World)(i:Value)(wr:World):Prop:=
 ∃(k:Nat) (sv':Value) (S':List SyU) (acc:List T) (v:Value) (xs:List Value),k<=as_.length/\acc.length=k/\i= .int .i64 k/\IsG B wr.heap.size aM g wr sv' mv vv S' n R vars/\GOk S' R/\N1<=S'.length/\GStep g sv mv vv w sv' mv vv wr/\wr.heap[tb]? =some (.cells #[.int .i64 h,v] 60 (0,0))/\wr.heap[rb]? =some (.cells #[.int .i64 0,.slice none 0 0] 60 (0,0))/\
  wr.ownsRow (tb+1) 60 2 v k xs/\aal (okR (tb+1) v wr) wr acc xs/\ab3 B wr.heap.size wr vv as_ r1/\amp (af1 R f) acc (as_.drop k) S'=X
theorem arc{B aM g:Nat}{sv sv' sv'' mv vv:Value}{n:Nat}{R:Int->Int}{vars:List Int}{f:Nat}{as_:List Int}{r1:Value}{X:Option (List T×List SyU)}{h:Int}{rb tb N1:Nat}{w wr w4 w5:World}{k:Nat}{S' S'':List SyU}{acc:List T}{v:Value}{xs:List Value}{x:T}{a2:Option Addr}{c2 g5 cap5:Nat}{ob:Obj}
 (hk:k<as_.length) (hacc:acc.length=k) (hn:aM<=tb) (hB:B<=wr.heap.size) (htw:w.heap.size<=tb) (hrt:rb<tb) (hG:IsG B wr.heap.size aM g wr sv' mv vv S' n R vars) (hst:GStep g sv mv vv w sv' mv vv wr) (htb:wr.heap[tb]? =some (.cells #[.int .i64 h,v] 60 (0,0))) (hrb:wr.heap[rb]? =some (.cells #[.int .i64 0,.slice none 0 0] 60 (0,0)))
 (hrow:wr.ownsRow (tb+1) 60 2 v k xs) (hrv:aal (okR (tb+1) v wr) wr acc xs) (har:ab3 B wr.heap.size wr vv as_ r1) (hX:amp (af1 R f) (acc++[x]) (as_.drop (k+1)) S''=X) (hxw:(Lit.int .i64 x.head).wf=true)
 (hA4:aaj (ant wr.heap.size w4) w4 x.args a2 c2) (hG4:IsG B w4.heap.size aM g w4 sv'' mv vv S'' n R vars) (hok4:GOk S'' R) (hN:N1<=S''.length) (hst4:GStep g sv' mv vv wr sv'' mv vv w4)
 (hown5:w5.ownsRow (tb+1) 60 2 (.slice (some ⟨g5,0,none⟩) (k+1) cap5) (k+1) (xs++[.int .i64 x.head,.slice a2 x.args.length c2])) (hgrow:(w4.alloc ob).grownBy w5 v.ownBlock) (hob:ob= .cells #[.int .i64 x.head,.slice a2 x.args.length c2] 60) (hat:v.ownBlock=some g5\/g5=w4.heap.size+1):
 awG B aM g sv mv vv n R vars f as_ r1 X h rb tb N1 w (.int .i64 ((k+1:Nat):Int)) (w5.setCell ⟨tb,1,none⟩ (.slice (some ⟨g5,0,none⟩) (k+1) cap5)):=by
 have htl:tb<wr.heap.size:=(aj.1 htb).1;have hz4:=hst4.size
 have hrow4:w4.ownsRow (tb+1) 60 2 v k xs:=ownsRow_kept hrow (fun b hb=>by
  obtain⟨_,_,cur,hc⟩:=rowBlock hrow hb;exact aa7 hG hc hst4)
 have hlt:=hrow4.lt;have hltr:=hrow.lt;have hz5:w4.heap.size+1<=w5.heap.size:=by have:=hgrow.size;simpa using this
 have hG5:=hG4.growTerm hrow4 hgrow (by omega) (by omega);have hk5:∀b,b<w4.heap.size->v.ownBlock≠some b->w5.heap[b]? =w4.heap[b]? :=fun b h1 h2=>(hgrow.block b (by simp;omega) (fun e=>h2 e.symm)).trans (az _ _ _ h1);have hvt:v.ownBlock≠some tb:=fun e=>by have:=hlt _ e;omega
 have htb5:w5.heap[tb]? =some (.cells #[.int .i64 h,v] 60 (0,0)):=(hk5 tb (by omega) hvt).trans ((aa7 hG htb hst4).trans htb);have hk6:∀b,b<w4.heap.size->v.ownBlock≠some b->b≠tb->(w5.setCell ⟨tb,1,none⟩ (.slice (some ⟨g5,0,none⟩) (k+1) cap5)).heap[b]? =w4.heap[b]? :=fun b h1 h2 h3=>(an _ _ _ _ h3).trans (hk5 b h1 h2)
 have hg5:∀b,b<w4.heap.size->v.ownBlock≠some b->g5≠b:=fun b h1 h2 e=>by
  subst e
  rcases hat with h|h
  ·exact h2 h
  ·omega
 refine⟨k+1,sv'',S'',acc++[x],_,_,by omega,by simp[hacc],rfl,(hG5.setTerm htb5 hn _).mono (by simp;omega),hok4,hN,?_,?_,?_,ownsRow_setCell_below hown5 (by simp) _,?_,?_,hX⟩
 ·exact((hst.trans hst4).grow hgrow (fun i hi=>by have:=hlt _ hi;omega)).setVar htw _
 ·rw[heap_setCell_same htb5];rfl
 ·exact(hk6 rb (by have:=(aj.1 hrb).1;omega) (fun e=>by have:=hlt _ e;omega) (by omega)).trans ((aa7 hG hrb hst4).trans hrb)
 ·refine aal.snoc hxw (hA4.keep (fun b hb=> ?_) (fun b hb=> ?_)) (hrv.keep (fun b hb=> ?_) (fun b hb=> ?_))
  ·obtain⟨h1,cs,h2⟩:=hb;exact hk6 b (aj.1 h2).1 (fun e=>by have:=hltr _ e;omega) (by omega)
  ·obtain⟨h1,cs,h2⟩:=hb;have hbl:=(aj.1 h2).1;have hv:v.ownBlock≠some b:=fun e=>by have:=hltr _ e;omega
   exact⟨⟨by omega,cs,(hk6 b hbl hv (by omega)).trans h2⟩,by simpa[Value.ownBlock] using hg5 b hbl hv⟩
  ·obtain⟨⟨h1,cs,h2⟩,h3⟩:=hb;have hbl:=(aj.1 h2).1;exact(hk6 b (by omega) h3 (by omega)).trans (aa7 hG h2 hst4)
  ·obtain⟨⟨h1,cs,h2⟩,h3⟩:=hb;have hbl:=(aj.1 h2).1;exact⟨⟨h1,cs,(hk6 b (by omega) h3 (by omega)).trans ((aa7 hG h2 hst4).trans h2)⟩,by simpa[Value.ownBlock] using hg5 b (by omega) h3⟩
 ·have har4:=(ab3.step hG har hst4).mono hz4;refine(har4.keep (fun b hb=>⟨hk6 b hb.lt (fun e=> ?_) (fun e=> ?_),hb.2.2.1⟩)).mono (by simp;omega)
  ·obtain⟨_,_,cur,hc⟩:=rowBlock hrow4 e;exact(acQ hG4 hc).2 hb
  ·subst e;exact(acQ hG4 ((aa7 hG htb hst4).trans htb)).2 hb
theorem anu{S:List SyU}{R:Int->Int}(h:GOk S R){t:T}{as_:List Int}(hm:(t,as_)∈S):0<=t.head/\t.head<=1023:=by
 have h1:=h.head _ hm;have h2:=aaI (h.good _ hm);simp only[okB,if_neg h1,Bool.and_eq_true,decide_eq_true_iff] at h2;simp only at h1;omega
theorem anv(B aM g:Nat)(mv vv:Value)(n:Nat)(R:Int->Int)(vars:List Int)(hn:n<=100000):∀(f:Nat) (S:List SyU) (v:Int) (x:T) (S':List SyU),af1 R f S v=some (x,S')->
 ∀(sv:Value) (w:World),B<=w.heap.size->IsG B w.heap.size aM g w sv mv vv S n R vars->GOk S R->0<=v->v<256+S.length->
 Calls Tryz.prog 191 #[.pointer (some ⟨g,0,none⟩),.int .i64 v] w (aiJ B aM g sv mv vv n R vars S x S' w):=by
 intro f
 induction f with
 |zero=>intro S v x S' h;simp[af1] at h
 |succ f ih=>
  intro S v x S' hbf sv w hB hG hok hv0 hv1;have IH:=ae ih;have hsl:=hok.len;have hn0:aM<=w.heap.size:=aE hG.low hB;obtain⟨w1,hw1⟩:∃w1,w.alloc (aaa 0 none 0 0)=w1:=⟨_,rfl⟩;have hb1:Below w.heap.size w w1:=by rw[←hw1];exact(ag _ _).alloc (af _) _
  have hz1:w1.heap.size=w.heap.size+1:=by rw[←hw1];simp
  have hrb1:w1.heap[w.heap.size]? =some (.cells #[.int .i64 0,.slice none 0 0] 60 (0,0)):=by rw[←hw1];exact heap_alloc_new w _
  have hG1:=(hG.later hb1 hB).mono hb1.size;have hgl:=hG1.lt;have hg1:w1.cell? ⟨g,1,none⟩=some mv:=by simp[World.cell?,hG1.heap]
  have CE:=ae (amj B g 1 n mv R v ⟨by omega,by omega⟩ (by omega) w1 hg1 hG1.links hG1.mv_ne);obtain⟨r,hr⟩:∃r,R v=r:=⟨_,rfl⟩;have hrv:=hok.root hv0 hv1;rw[hr] at hrv;have HG1:=ae hG1;have HST1:=ae (show GStep g sv mv vv w sv mv vv w1 from GStep.later hb1);have HBF:=ae hbf;have HRR:=ae hr;have HOK:=ae hok;obtain⟨rb,hrbe⟩:∃rb,w.heap.size=rb:=⟨_,rfl⟩;have HRB1:=ae hrb1;rw[hrbe] at HRB1;have HZ1:=ae hz1;have hB1:B<=w1.heap.size:=by omega
  clear hbf hG hG1 hb1 hz1 hrb1 ih hr hg1 hok;go_enter Tryz.func191,Tryz.ntmps191
  go_wp2_with fail
  refine CE.out.mono ?_;rintro e w2 ⟨rfl,hl2,hg2⟩;rw[HRR.out];have hGS:GStep g sv mv vv w1 sv mv vv w2:=⟨hg2.os,hg2.tape,hg2.output,hg2.size,fun i hi hn=>hg2.block i hi (fun e=>hn (.inr (.inr (.inl e.symm)))),fun _ _ h=>h⟩;have hmg:=HG1.out.mv_ne;have hG2:IsG B w2.heap.size aM g w2 sv mv vv S n R vars:=(HG1.out.afterBind hB1 ((hg2.block g hgl (fun e=>hmg e.symm)).trans HG1.out.heap) hl2 (fun i h1 _ h3=>hg2.block i h1 (fun e=>h3 e.symm))).mono hg2.size;have hrb2:w2.heap[rb]? =some (.cells #[.int .i64 0,.slice none 0 0] 60 (0,0)):=(aa7 HG1.out HRB1.out hGS).trans HRB1.out;have hst2:=HST1.out.trans hGS;have hz2:=hst2.size;have hB2:B<=w2.heap.size:=by omega
  have hbf:=HBF.out;rw[af1,HRR.out] at hbf;have HG2:=ae hG2;have HST2:=ae hst2;have HRB2:=ae hrb2;have hrbl:rb<w2.heap.size:=(aj.1 hrb2).1;clear hl2 hg2 hGS hst2
  go_wp2_with fail
  refine(abf r w2).mono ?_;rintro e _ ⟨rfl,rfl⟩;by_cases hvr:r<256
  ·rw[if_pos hvr] at hbf;simp only[aJ,Prod.mk.injEq] at hbf;obtain⟨rfl,rfl⟩:=hbf;rw[decide_eq_true hvr];have r0:w2.cell? ⟨rb,0,none⟩=some (.int .i64 0):=by simp[World.cell?,hrb2]
   have r1:w2.cell? ⟨rb,1,none⟩=some (.slice none 0 0):=by simp[World.cell?,hrb2]
   have f0:w2.frozen? ⟨rb,0,none⟩=false:=by simp[World.frozen?,hrb2]
   have f1:w2.frozen? ⟨rb,1,none⟩=false:=by simp[World.frozen?,hrb2]
   have hG4:=(hG2.setTerm hrb2 (by omega) (o:=0) (.int .i64 (-1-r))).setTerm (heap_setCell_same hrb2 _) (by omega) (o:=1) (.slice none 0 0);have hst4:=(HST2.out.setVar (rb:=rb) (o:=0) (by omega) (.int .i64 (-1-r))).setVar (rb:=rb) (o:=1) (by omega) (.slice none 0 0);have HP:=ae (show aiJ B aM g sv mv vv n R vars S (vt r) S w (.returned (tm (-1-r) none 0 0)) _ from⟨none,0,sv,rfl,avt (by omega) (by omega),⟨by simp[vt,T.args],by simp[maxLen],.inl rfl⟩,by simpa using hG4,HOK.out,af _,hst4⟩);clear hG4 hst4 hG2 hrb2;go_wp2;refine bodyPost_ret (v:=tm (-1-r) none 0 0) (by simp[results,Tryz.results191,go_sem,r0,r1]) rfl ?_;exact HP.out
  ·rw[if_neg hvr] at hbf;rw[decide_eq_false hvr];obtain⟨i,rfl⟩:∃i:Nat,r=256+(i:Int):=⟨(r-256).toNat,by omega⟩;have hil:i<S.length:=by omega
   obtain⟨t,as0,hsi⟩:∃t as_,S[i]? =some (t,as_):=⟨S[i].1,S[i].2,ai hil⟩;have hTi:aa5 S (256+(i:Int))=t:=by unfold aa5;rw[show((256+(i:Int))-256).toNat=i from by omega,hsi];rfl
   rw[hTi] at hbf;have hth:=anu HOK.out (ak hsi);obtain⟨xs,hrow,hsy⟩:=id hG2.rows;obtain⟨htw,hx0,_⟩:=hsy.get hsi;obtain⟨m,hm⟩:∃m,S.length=m+1:=⟨S.length-1,by omega⟩;obtain⟨sb,scap,hsv⟩:=ownsRow_succ (hm▸hrow);rw[←hm] at hsv;subst hsv;have e0:=hrow.cells (g:=sb) rfl _ _ hx0;rw[aaB,Nat.zero_add] at e0;have g0:w2.cell? ⟨g,0,none⟩=some (.slice (some ⟨sb,0,none⟩) S.length scap):=by simp[World.cell?,hG2.heap]
   have hi0:(0:Int)<=(i:Int):=aw _;have hi1:(i:Int)<(S.length:Int):=by omega
   obtain⟨w5,hw5⟩:∃w5,w2.alloc (aaa t.head none 0 0)=w5:=⟨_,rfl⟩;have hb5:Below w2.heap.size w2 w5:=by rw[←hw5];exact(ag _ _).alloc (af _) _
   have htb5:w5.heap[w2.heap.size]? =some (.cells #[.int .i64 t.head,.slice none 0 0] 60 (0,0)):=by rw[←hw5];exact heap_alloc_new w2 _
   have hrb5:w5.heap[rb]? =some (.cells #[.int .i64 0,.slice none 0 0] 60 (0,0)):=(hb5.block rb hrbl).trans hrb2;have hG5:=(hG2.later hb5 hB2).mono hb5.size;have hz5:=hb5.size;have CX:=ae (af0 B aM g (.slice (some ⟨sb,0,none⟩) S.length scap) mv vv S n R vars (256+(i:Int)) w5 (by omega) hG5 (by omega) (by omega) (by omega) (fun x hx=>aE (abh _) (HOK.out.sz x hx)));obtain⟨tb,htbe⟩:∃tb,w2.heap.size=tb:=⟨_,rfl⟩;rw[htbe] at htb5;have htbw:w.heap.size<=tb:=by rw[←htbe];exact hz2
   have hrbtb:rb<tb:=by rw[←htbe];exact hrbl
   have HALL:=ae (And.intro hG5 (And.intro (HST2.out.trans (GStep.later hb5)) (And.intro htb5 hrb5)))
   have HASL:=ae (show(aac S (256+(i:Int))).2.length<=1000 from by
    rw[abi (v:=256+(i:Int)) (by omega) (by omega) HOK.out.made,hTi];exact aE (abh _) (HOK.out.sz _ (ak hsi)))
   have HTBE:=ae htbe;have HBF2:=ae hbf;have HTW:=ae htw;clear hG5 hb5 htb5 hrb5 hG2 hrb2 hbf hsy hx0 hrow hsi hTi hm htw hz5 htbe;subst hw5
   go_wp2_with fail
   refine CX.out.mono ?_;rintro e w6 ⟨r1,sv6,rfl,hG6,hS6,hr6⟩;obtain⟨hG5,hst5,htb5,hrb5⟩:=HALL.out;obtain⟨hok6,hl6,hva6⟩:=HOK.out.args (256+(i:Int));have hst6:=hst5.trans hS6;have htb6:=(aa7 hG5 htb5 hS6).trans htb5;have hrb6:=(aa7 hG5 hrb5 hS6).trans hrb5;obtain⟨as_,has⟩:∃as_,(aac S (256+(i:Int))).2=as_:=⟨_,rfl⟩;obtain⟨S6,hS6e⟩:∃S6,(aac S (256+(i:Int))).1=S6:=⟨_,rfl⟩;have hbf2:=HBF2.out;have hasl:=HASL.out;rw[has] at hr6 hva6 hbf2 hasl;rw[hS6e] at hG6 hok6 hva6 hbf2 hl6
   obtain⟨ra,rc,hrv1,hrc1,hrc2⟩:∃ra rc,r1= .slice ra as_.length rc/\as_.length<=rc/\rc<=maxLen:=by
    rcases hr6 with⟨rfl,rfl⟩|⟨ab,cap,rfl,_,h1,h2,_⟩
    ·exact⟨none,0,rfl,by simp,by simp[maxLen]⟩
    ·exact⟨_,cap,rfl,h1,h2⟩
   subst hrv1;unfold maxLen at hrc2;have HVA:=ae hva6
   have HST:=ae (show awG B aM g (.slice (some ⟨sb,0,none⟩) S.length scap) mv vv n R vars f as_ (.slice ra as_.length rc) (amp (af1 R f) [] as_ S6) t.head rb tb S6.length w (.int .i64 ((0:Nat):Int)) w6 from
    ⟨0,sv6,S6,[],_,[],Nat.zero_le _,rfl,rfl,hG6,hok6,af _,hst6,htb6,hrb6,World.ownsRow_nil _ _ _ _,trivial,hr6,by simp⟩)
   obtain⟨X,hX⟩:∃X,amp (af1 R f) [] as_ S6=X:=⟨_,rfl⟩;rw[hX] at HST hbf2;have HBF3:=ae hbf2;have hl6':=hok6.len;clear hG5 hst5 htb5 hrb5 hok6 hva6 hst6 htb6 hrb6 has hS6e hbf2 hr6 hX HALL HBF2 hG6 hS6;obtain⟨i0,hi,hz0,hz1',hz2'⟩:=info_parts acX;rw[HTBE.out];go_wp2
   go_loopw [33] (fun j wr=>awG B aM g (.slice (some ⟨sb,0,none⟩) S.length scap) mv vv n R vars f as_ (.slice ra as_.length rc) X t.head rb tb S6.length w j wr) (fun j _=>as_.length-(intOf j).toNat)
   case atStart=>exact HST.out
   case round=>
    obtain⟨k,sv',S2,acc,vx,ys,hk,hacc,rfl,hGr,hokr,hNr,hstr,htbr,hrbr,hrowr,hrvr,harr,hXr⟩:=hrel;have hzr:=hstr.size;have htbl:tb<wr.heap.size:=(aj.1 htbr).1;have hBr:B<=wr.heap.size:=by omega
    have hl2':=hokr.len;by_cases hlt:k<as_.length
    ·obtain⟨a,ha⟩:∃a,as_[k]? =some a:=⟨_,ai hlt⟩;obtain⟨hkl,hke⟩:=ah.1 ha;have hav:=HVA.out a (ak ha);rw[aD hkl,hke,amp] at hXr
     obtain⟨ab,rfl,hck⟩:∃ab,ra=some ⟨ab,0,none⟩/\wr.cell? ⟨ab,k,none⟩=some (.int .i64 a):=by
      rcases id harr with⟨rfl,_⟩|⟨ab,cap,h1,_,_,_,h4⟩
      ·simp at hlt
      ·simp only[Value.slice.injEq] at h1;exact⟨ab,h1.1,h4 k a ha⟩
     have hk0:(0:Int)<=(k:Int):=aw _;have hk1:(k:Int)<(as_.length:Int):=by omega
     have ho1:wr.cell? ⟨tb,1,none⟩=some vx:=by simp[World.cell?,htbr]
     have hf1:wr.frozen? ⟨tb,1,none⟩=false:=by simp[World.frozen?,htbr]
     cases hf:af1 R f S2 a with
     |none=>
      rw[hf] at hXr;have:=HBF3.out;rw[←hXr] at this;cases this
     |some z=>
      obtain⟨y,S3⟩:=z;rw[hf] at hXr;simp only at hXr;have cc:Calls Tryz.prog 191 #[.pointer (some ⟨g,0,none⟩),.int .i64 a] wr.drew (aiJ B aM g sv' mv vv n R vars S2 y S3 wr.drew):=IH.out S2 a y S3 hf sv' wr.drew hBr (hGr.kept (fun _ _=>rfl) hBr) hokr hav.1 (by omega);have CC:=ae cc;have hkm:k+1<=maxLen:=by unfold maxLen;omega
      have HALL:=ae (And.intro hGr (And.intro hstr (And.intro htbr (And.intro hrbr (And.intro hrvr (And.intro harr hXr))))));have HROW:=ae hrowr;clear cc hGr hstr htbr hrbr hrvr harr hXr ha hf hrowr;go_wp2
      go_region_law (first
       |(refine step_append_lies _ (by rfl) _ _ _ (by rfl) (tb+1) 60 i0 _ 2 32 Tryz.underlying58 hi hz0 hz1' hz2' rfl (by omega) vx k ys (by rfl) (hrow4.alloc _) ⟨w4.heap.size,0,none⟩ 1 1 [.int .i64 y.head,.slice a2 y.args.length c2] (by rfl) (by rfl) (World.news_of_block (cs:=#[.int .i64 y.head,.slice a2 y.args.length c2]) (t:=60) (fr:=(0,0)) (heap_alloc_new w4 _)) (by simp[Value.oneCell']) (by omega) hkm (by omega) (by simp;omega) (w4.heap.size+1) (by simp) ?_;intro g5 cap5 w5 hown5 hgrow5 hat5 hlt5;have hvt:vx.ownBlock≠some tb:=(fun e=>by have:=hrow4.lt _ e;omega);have ho5:w5.cell? ⟨tb,1,none⟩=some vx:=(cell_grown hgrow5 (p:=⟨tb,1,none⟩) (by simp;omega) (fun e=>hvt e.symm)).trans (ho4' _);have hf5:w5.frozen? ⟨tb,1,none⟩=false:=(abW hgrow5 (p:=⟨tb,1,none⟩) (by simp;omega) (fun e=>hvt e.symm)).trans (hf4' _))
       |(go_simp;go_at_call 191;refine CC.out.mono ?_;rintro e w4 ⟨a2,c2,sv4,rfl,hyw,hA4,hG4,hok4,hN4,hst4⟩;have hst4':GStep g sv' mv vv wr sv4 mv vv w4:=⟨hst4.os,hst4.tape,hst4.output,hst4.size,hst4.block,hst4.own⟩;have hz4:wr.heap.size<=w4.heap.size:=hst4'.size;have htb4:w4.heap[tb]? =some (.cells #[.int .i64 t.head,vx] 60 (0,0)):=(aa7 HALL.out.1 HALL.out.2.2.1 hst4').trans HALL.out.2.2.1;have ho4:w4.cell? ⟨tb,1,none⟩=some vx:=(by simp[World.cell?,htb4]);have ho4':∀ob,(w4.alloc ob).cell? ⟨tb,1,none⟩=some vx:=(fun ob=>(aq (a:=⟨tb,1,none⟩) (az w4 ob _ (by simp;omega))).trans ho4);have hf4':∀ob,(w4.alloc ob).frozen? ⟨tb,1,none⟩=false:=(fun ob=>(aaQ (a:=⟨tb,1,none⟩) (az w4 ob _ (by simp;omega))).trans (by simp[World.frozen?,htb4]));have hrow4:w4.ownsRow (tb+1) 60 2 vx k ys:=ownsRow_kept HROW.out (fun b hb=>by obtain⟨_,_,cur,hc⟩:=rowBlock HROW.out hb;exact aa7 HALL.out.1 hc hst4')))
      all_goals
       go_wp2
       go_roundw
       case rel=>
        obtain⟨hGr,hstr,htbr,hrbr,hrvr,harr,hXr⟩:=HALL.out;exact arc hlt hacc (by omega) hBr htbw hrbtb hGr hstr htbr hrbr HROW.out hrvr harr hXr hyw hA4 hG4 hok4 (by omega) hst4' hown5 hgrow5 rfl (by simpa using hat5)
       case measure=>simp[intOf];omega
    ·obtain rfl:k=as_.length:=by omega
     rw[List.drop_of_length_le (af _),amp] at hXr;have hres:=HBF3.out;rw[←hXr] at hres;simp only[aJ,Prod.mk.injEq] at hres;obtain⟨rfl,rfl⟩:=hres;have hrow':=hrowr;rw[←hacc] at hrow'
     obtain⟨a3,c3,hvx,hA3⟩:=ael (ok':=fun b=>ant w.heap.size wr b/\b≠rb) hrow' hrvr (fun b hb=>⟨⟨by have:=hb.1.1;omega,hb.1.2⟩,by have:=hb.1.1;omega⟩) (fun g hg=>by
      obtain⟨h1,h2,cur,hc⟩:=rowBlock hrowr hg;exact⟨⟨by omega,cur,hc⟩,by omega⟩)
     subst hvx;have q0:wr.cell? ⟨tb,0,none⟩=some (.int .i64 t.head):=by simp[World.cell?,htbr]
     have q1:wr.cell? ⟨tb,1,none⟩=some (.slice a3 acc.length c3):=by simp[World.cell?,htbr]
     have r0:wr.cell? ⟨rb,0,none⟩=some (.int .i64 0):=by simp[World.cell?,hrbr]
     have r1:wr.cell? ⟨rb,1,none⟩=some (.slice none 0 0):=by simp[World.cell?,hrbr]
     have f0:wr.frozen? ⟨rb,0,none⟩=false:=by simp[World.frozen?,hrbr]
     have f1:wr.frozen? ⟨rb,1,none⟩=false:=by simp[World.frozen?,hrbr]
     have h1:=heap_setCell_same (o:=0) hrbr (.int .i64 t.head);have hG9:=(hGr.setTerm hrbr (by omega) (o:=0) (.int .i64 t.head)).setTerm h1 (by omega) (o:=1) (.slice a3 acc.length c3);have hst9:=(hstr.setVar (rb:=rb) (o:=0) (by omega) (.int .i64 t.head)).setVar (rb:=rb) (o:=1) (by omega) (.slice a3 acc.length c3);have hne:∀b,b≠rb->((wr.setCell ⟨rb,0,none⟩ (.int .i64 t.head)).setCell ⟨rb,1,none⟩ (.slice a3 acc.length c3)).heap[b]? =wr.heap[b]? :=fun b hb=>(an _ _ _ _ hb).trans (an _ _ _ _ hb);have HP:=ae (show aiJ B aM g (.slice (some ⟨sb,0,none⟩) S.length scap) mv vv n R vars S (.node t.head acc) S2 w (.returned (tm t.head a3 acc.length c3)) _ from⟨a3,c3,sv',rfl,HTW.out,hA3.keep (fun b hb=>hne b hb.2) (fun b hb=>⟨hb.1.1,by obtain⟨_,cs,hc⟩:=hb.1;exact⟨cs,(hne b hb.2).trans hc⟩⟩),by simpa using hG9,hokr,by omega,hst9⟩);clear hG9 hst9 hne h1 hA3 hrow' hXr hGr hokr hstr htbr hrbr hrvr harr hrowr hacc;go_wp2;refine bodyPost_ret (v:=tm t.head a3 acc.length c3) (by simp[results,Tryz.results191,go_sem,r0,r1]) rfl ?_;exact HP.out
def alm(R:Int->Int)(f:Nat):Sb->List Int->List SyU->Option (Sb×List SyU)
 |acc,[],S=>some (acc,S)
 |acc,v::vs,S=>
  match af1 R f S v with
  |none=>none
  |some (x,S')=>alm R f (acc++[(v,x)]) vs S'
section
variable {B L aM g:Nat} {W:World} {sv mv vv:Value} {syms:List SyU} {n:Nat} {R:Int->Int} {vars:List Int}
theorem af2(hG:IsG B L aM g W sv mv vv syms n R vars){b:Nat}{cs:Array Value}(hb:W.heap[b]? =some (.cells cs 107 (0,0))):¬afX g sv mv vv b/\¬aaW B L W vv b:=by
 refine⟨fun e=> ?_,fun e=> ?_⟩
 ·rcases e with rfl|e|e|e
  ·rw[hG.heap] at hb;simp at hb
  ·obtain⟨ys,r1,_⟩:=hG.rows;obtain⟨_,_,c',hc'⟩:=rowBlock r1 e;rw[hc'] at hb;simp at hb
  ·obtain⟨_,_,es,cl,hc'⟩:=hG.links.map_block e;rw[hc'] at hb;cases hb
  ·obtain⟨_,_,c',hc'⟩:=rowBlock hG.vrow e;rw[hc'] at hb;simp at hb
 ·obtain⟨_,_,_,cur,hc⟩:=e;rw[hc] at hb;simp at hb
theorem IsG.growBinds(h:IsG B L aM g W sv mv vv syms n R vars){base k:Nat}{v:Value}{xs:List Value}(hr:W.ownsRow base 107 3 v k xs){ob:Obj}{w9:World}(hg:(W.alloc ob).grownBy w9 v.ownBlock)(hn:aM<=base)(hB:aM<=W.heap.size):IsG B L aM g w9 sv mv vv syms n R vars:=by
 have hk:∀i,i<W.heap.size->v.ownBlock≠some i->w9.heap[i]? =W.heap[i]? :=fun i hi hs=>(hg.block i (by simp;omega) (fun e=>hs e.symm)).trans (az W ob i hi);refine h.keptBut fun i hi=> ?_
 have hv:v.ownBlock≠some i:=fun e=>by
  obtain⟨h1,_,cur,hc⟩:=rowBlock hr e
  rcases hi with hi|hi|hi
  ·omega
  ·exact(af2 h hc).1 hi
  ·exact(af2 h hc).2 hi
 rcases hi with hi|hi|hi
 ·exact hk i (by omega) hv
 ·exact hk i (h.own_lt hi) hv
 ·exact hk i hi.lt hv
end
def axe(ok:Nat->Prop)(W:World)(x:Int×T)(b o:Nat):Prop:=(Lit.int .i64 x.1).wf=true/\W.cell? ⟨b,o,none⟩=some (.int .i64 x.1)/\aho ok W x.2 b (o+1)
def abH(ok:Nat->Prop)(W:World)(s:Sb)(a:Option Addr)(c:Nat):Prop:=
 s.length<=c/\c<=maxLen/\(s=[]\/∃b o,a=some ⟨b,o,none⟩/\ok b/\∀(j:Nat) (x:Int×T),s[j]? =some x->axe ok W x b (o+j*3))
theorem abH.keep{ok ok':Nat->Prop}{w w':World}{s:Sb}{a:Option Addr}{c:Nat}(h:abH ok w s a c)(hb:∀b,ok b->w'.heap[b]? =w.heap[b]?)(hm:∀b,ok b->ok' b):abH ok' w' s a c:=by
 obtain⟨h1,h2,h3⟩:=h;refine⟨h1,h2,?_⟩
 rcases h3 with h3|⟨b,o,h4,h5,h6⟩
 ·exact .inl h3
 ·refine .inr ⟨b,o,h4,hm b h5,fun j x hx=> ?_⟩;obtain⟨p1,p2,p3⟩:=h6 j x hx;exact⟨p1,(aq (a:=⟨b,_,none⟩) (hb b h5)).trans p2,aho.keep hb hm x.2 (hb b h5) p3⟩
theorem ard{n:Nat}{w:World}{s:Sb}{a:Option Addr}{c:Nat}:abH (· <n) w s a c↔ahj n w s a c:=
 ⟨fun⟨h1,h2,h3⟩=>⟨h1,h2,h3.imp id fun⟨b,o,h4,h5,h6⟩=>⟨b,o,h4,h5,fun j x hx=>⟨(h6 j x hx).1,(h6 j x hx).2.1,(alp x.2).1 (h6 j x hx).2.2⟩⟩⟩,
  fun⟨h1,h2,h3⟩=>⟨h1,h2,h3.imp id fun⟨b,o,h4,h5,h6⟩=>⟨b,o,h4,h5,fun j x hx=>⟨(h6 j x hx).1,(h6 j x hx).2.1,(alp x.2).2 (h6 j x hx).2.2⟩⟩⟩⟩
theorem abH.bs{ok:Nat->Prop}{n:Nat}{w:World}{s:Sb}{a:Option Addr}{c:Nat}(h:abH ok w s a c)(hm:∀b,ok b->b<n):ahj n w s a c:=ard.1 (h.keep (fun _ _=>rfl) hm)
theorem abH.nil(ok:Nat->Prop)(w:World)(a:Option Addr){c:Nat}(hc:c<=maxLen):abH ok w [] a c:=⟨by simp,hc,.inl rfl⟩
theorem aiK{ok ok':Nat->Prop}{w:World}{base:Nat}{v:Value}{s:Sb}{xs:List Value}(hown:w.ownsRow base 107 3 v s.length xs)(hr:acf ok w s xs)(hm:∀b,ok b->ok' b)(hg:∀g,v.ownBlock=some g->ok' g):∃a c,v= .slice a s.length c/\abH ok' w s a c:=by
 have hcells:=fun g hg=>hown.cells (g:=g) hg
 rcases hown.2 with⟨rfl,h0⟩|⟨g,cap,cur,rfl,hb,hh,hn,hc,hs,_⟩
 ·exact⟨none,0,by rw[h0],by omega,by simp[maxLen],.inl (aC h0)⟩
 ·refine⟨_,cap,rfl,hn,hc,.inr ⟨g,0,rfl,hg g rfl,fun j x hx=> ?_⟩⟩;obtain⟨x,t⟩:=x;obtain⟨h1,h2,h3,h4,a,c,h5,h6⟩:=hr.get hx;have e1:=hcells g rfl _ _ h3;have e2:=hcells g rfl _ _ h4;have e3:=hcells g rfl _ _ h5;rw[aaB] at e1 e2 e3;exact⟨h1,e1,abO.2 ⟨h2,by rw[show 0+j*3+1=0+(j*3+1) from by omega];exact e2,a,c,by rw[show 0+j*3+1+1=0+(j*3+2) from by omega];exact e3,h6.keep (fun _ _=>rfl) hm⟩⟩
def aw3(B aM g:Nat)(sv mv vv:Value)(n:Nat)(R:Int->Int)(vars:List Int)(f:Nat)(X:Option (Sb×List SyU))(N1:Nat)(w:World)(v i:Value)(wr:World):Prop:=
 ∃(k:Nat) (sv':Value) (S':List SyU) (acc:Sb) (xs:List Value),k<=vars.length/\acc.length=k/\i= .int .i64 k/\IsG B wr.heap.size aM g wr sv' mv vv S' n R vars/\GOk S' R/\N1<=S'.length/\GStep g sv mv vv w sv' mv vv wr/\wr.ownsRow w.heap.size 107 3 v acc.length xs/\acf (ant w.heap.size wr) wr acc xs/\alm R f acc (vars.drop k) S'=X
def aoD(B:Nat)(s:Sb)(w:World)(e:Ending)(w':World):Prop:=∃a c,e= .returned (.slice a s.length c)/\abH (fun b=>w.heap.size<=b/\b<w'.heap.size) w' s a c/\Below B w w'
theorem aln(B aM g:Nat)(sv mv vv:Value)(n:Nat)(R:Int->Int)(vars:List Int)(hn:n<=100000)(hvl:vars.length<=100000)(S:List SyU)(f:Nat)(s:Sb)(S':List SyU)(hr:alm R f [] vars S=some (s,S'))(hvv:∀z∈vars,0<=z/\z<256)(w:World)(hB:B<=w.heap.size)(hG:IsG B w.heap.size aM g w sv mv vv S n R vars)(hok:GOk S R):
 Calls Tryz.prog 149 #[.pointer (some ⟨g,0,none⟩)] w (aoD B s w):=by
 obtain⟨i0,hi,hz0,hz1,hz2⟩:=info_parts arX;have hn0:aM<=w.heap.size:=aE hG.low hB
 obtain⟨va,vc,hva,hvc1,hvc2⟩:∃va vc,vv= .slice va vars.length vc/\vars.length<=vc/\vc<=maxLen:=by
  rcases hG.vrow.2 with⟨h,h0⟩|⟨g',cap',cur,h,_,_,h1,h2,_⟩
  ·exact⟨none,0,by rw[h,h0],by omega,by simp[maxLen]⟩
  ·exact⟨_,cap',h,h1,h2⟩
 unfold maxLen at hvc2;have hgl:=hG.lt;have g2:w.cell? ⟨g,2,none⟩=some (.slice va vars.length vc):=by rw[←hva];simp[World.cell?,hG.heap]
 have HST:=ae (show aw3 B aM g sv mv vv n R vars f (some (s,S')) S.length w (.slice none 0 0) (.int .i64 ((0:Nat):Int)) w from
  ⟨0,sv,S,[],[],Nat.zero_le _,rfl,rfl,hG,hok,af _,GStep.refl _ _ _ _ _,World.ownsRow_nil _ _ _ _,trivial,by simpa using hr⟩)
 have HOWN:=ae (show ∀i,afX g sv mv vv i->B<=i from fun i hi=>hG.own_ge hi);have HVA:=ae hva;have HVV:=ae hvv;clear hr hG hvv hok hva;go_enter Tryz.func149,Tryz.ntmps149;go_wp2
 go_loopw [3,11] (fun v i wr=>aw3 B aM g sv mv vv n R vars f (some (s,S')) S.length w v i wr) (fun _ i _=>vars.length-(intOf i).toNat)
 case atStart=>exact HST.out
 case round=>
  obtain⟨k,sv',S2,acc,xs,hk,hacc,rfl,hGr,hokr,hN,hstr,hrow,hbv,hXr⟩:=hrel;have hzr:=hstr.size;have hBr:B<=wr.heap.size:=by omega
  have hl2':=hokr.len;by_cases hlt:k<vars.length
  ·obtain⟨x,hx⟩:∃x,vars[k]? =some x:=⟨_,ai hlt⟩;obtain⟨hkl,hke⟩:=ah.1 hx;have hxv:=HVV.out x (ak hx);rw[aD hkl,hke,alm] at hXr
   obtain⟨ab,hab,hck⟩:∃ab,va=some ⟨ab,0,none⟩/\wr.cell? ⟨ab,k,none⟩=some (.int .i64 x):=by
    have hvr:=hGr.vrow;rw[HVA.out] at hvr;have hcells:=fun g hg=>hvr.cells (g:=g) hg
    rcases hvr.2 with⟨h,h0⟩|⟨g',cap',cur,h,_⟩
    ·omega
    ·simp only[Value.slice.injEq] at h;refine⟨g',h.1,?_⟩;have:=hcells g' (by rw[h.1];rfl) k (.int .i64 x) (by simp[hx]);rw[aaB] at this;simpa using this
   subst hab;have hk0:(0:Int)<=(k:Int):=aw _;have hk1:(k:Int)<(vars.length:Int):=by omega
   cases hf:af1 R f S2 x with
   |none=>rw[hf] at hXr;cases hXr
   |some z=>
    obtain⟨y,S3⟩:=z;rw[hf] at hXr;simp only at hXr;have CI:=ae (anv B aM g mv vv n R vars hn f S2 x y S3 hf sv' wr hBr hGr hokr hxv.1 (by omega));have HALL:=ae (And.intro hGr (And.intro hstr (And.intro hrow (And.intro hbv hXr))));clear hGr hstr hrow hbv hXr hx hf
    go_wp2_with fail
    refine CI.out.mono ?_;rintro e w4 ⟨a4,c4,sv4,rfl,hyw,hA4,hG4,hok4,hN4,hst4⟩;obtain⟨hGr,hstr,hrow,hbv,hXr⟩:=HALL.out;have hz4:=hst4.size
    have hrow4:w4.ownsRow w.heap.size 107 3 u3 acc.length xs:=ownsRow_kept hrow (fun b hb=>by
     obtain⟨_,_,cur,hc⟩:=rowBlock hrow hb;exact hst4.block b (aj.1 hc).1 (af2 hGr hc).1)
    have hbv4:acf (ant w.heap.size w4) w4 acc xs:=hbv.keep (fun b hb=>(hb.step hGr hst4).1) (fun b hb=>(hb.step hGr hst4).2);have hkm:acc.length+1<=maxLen:=by unfold maxLen;omega
    have HALL2:=ae (And.intro hG4 (And.intro (hstr.trans hst4) (And.intro hbv4 (And.intro hXr (And.intro hyw hA4)))));have HROW:=ae hrow4;have hbase:w.heap.size<=w4.heap.size:=by omega
    clear hGr hstr hrow hbv hXr hA4 hG4 hst4 hbv4 HALL CI
    go_wp2_with (first|(at_builtin;refine wpList_append_lies _ (by rfl) _ _ 42 (by rfl) w.heap.size 107 i0 _ 3 40 Tryz.underlying42 hi hz0 hz1 hz2 rfl (by omega) _ _ xs (by rfl) (hrow4.alloc _) ⟨w4.heap.size,0,none⟩ 1 1 [.int .i64 x,.int .i64 y.head,.slice a4 y.args.length c4] (by rfl) (by rfl) (World.news_of_block (cs:=#[.int .i64 x,.int .i64 y.head,.slice a4 y.args.length c4]) (t:=107) (fr:=(0,0)) (heap_alloc_new w4 _)) (by simp[Value.oneCell']) (by omega) hkm (by omega) (by simp;omega) (w4.heap.size+1) (by simp) ?_;intro g5 cap5 w5 hown5 hgrow5 hat5 hlt5)|go_in)
    go_roundw
    case rel=>
     obtain⟨hG4,hst04,hbv4,hXr,hyw,hA4⟩:=HALL2.out;have hz5:w4.heap.size+1<=w5.heap.size:=by have:=hgrow5.size;simpa using this
     have hkt:∀(b:Nat) (cs:Array Value),w4.heap[b]? =some (Obj.cells cs 60 (0,0))->w5.heap[b]? =w4.heap[b]? :=fun b cs hb=>(hgrow5.block b (by have:=(aj.1 hb).1;simp;omega) (fun e=>by
      obtain⟨_,_,cur,hc⟩:=rowBlock HROW.out e.symm;rw[hb] at hc;simp at hc)).trans (az _ _ _ (aj.1 hb).1)
     have hok:∀b,ant w.heap.size w4 b->w5.heap[b]? =w4.heap[b]? /\ant w.heap.size w5 b:=fun b hb=>by
      obtain⟨h1,cs,h2⟩:=hb;exact⟨hkt b cs h2,h1,cs,(hkt b cs h2).trans h2⟩
     have hok':∀b,ant wr.heap.size w4 b->ant w.heap.size w4 b:=fun b hb=>⟨by have:=hb.1;omega,hb.2⟩;refine⟨k+1,sv4,S3,acc++[(x,y)],xs++[.int .i64 x,.int .i64 y.head,.slice a4 y.args.length c4],by omega,by simp[hacc],by go_num,(hG4.growBinds HROW.out hgrow5 (by omega) (by omega)).mono (by omega),hok4,by omega,hst04.grow hgrow5 (fun i hi=>(rowBlock HROW.out hi).1),?_,?_,hXr⟩
     ·rw[aK];rw[hacc] at hown5 ⊢;exact hown5
     ·exact acf.snoc (WalkArith.wf_i64 ⟨by omega,by omega⟩) hyw (hA4.keep (fun b hb=>(hok b (hok' b hb)).1) (fun b hb=>(hok b (hok' b hb)).2)) (hbv4.keep (fun b hb=>(hok b hb).1) (fun b hb=>(hok b hb).2))
    case measure=>simp[intOf];omega
  ·obtain rfl:k=vars.length:=by omega
   rw[List.drop_of_length_le (af _),alm] at hXr;simp only[aJ,Prod.mk.injEq] at hXr;obtain⟨rfl,rfl⟩:=hXr;obtain⟨ar,cr,hvv,hBs⟩:=aiK (ok':=fun b=>w.heap.size<=b/\b<wr.heap.size) hrow hbv (fun b hb=>by obtain⟨hlo,cs,hc⟩:=hb;exact⟨hlo,(aj.1 hc).1⟩) (fun g hg=>⟨(rowBlock hrow hg).1,(rowBlock hrow hg).2.1⟩);subst hvv;have HP:=ae (show aoD B acc w (.returned (.slice ar acc.length cr)) wr from⟨ar,cr,rfl,hBs,hstr.below hB HOWN.out⟩);clear hGr hokr hstr hrow hbv hBs hacc;go_wp2;go_ret;exact HP.out
def alg(m:Int×Int):Int:=if 400<m.1 then 2 else if 40<m.2 then 7 else 0
theorem anw(m:Int×Int)(w:World):Calls Tryz.prog 148 #[.agg #[.int .i64 m.1,.int .i64 m.2]] w fun e w'=>e= .returned (.int .i64 (alg m))/\Below w.heap.size w w':=by
 obtain⟨p,q⟩:=m;have HB:=ae (show ∀ob,Below w.heap.size w (w.alloc ob) from fun ob=>(ag _ _).alloc (af _) _);by_cases h1:400<p
 ·have HE:=ae (show alg (p,q)=2 from by unfold alg;rw[if_pos h1]);go_enter Tryz.func148,Tryz.ntmps148;go_wp2;go_ret;exact⟨by rw[HE.out];rfl,HB.out _⟩
 ·by_cases h2:40<q
  ·have HE:=ae (show alg (p,q)=7 from by unfold alg;rw[if_neg h1,if_pos h2]);go_enter Tryz.func148,Tryz.ntmps148;go_wp2;go_ret;exact⟨by rw[HE.out];rfl,HB.out _⟩
  ·have HE:=ae (show alg (p,q)=0 from by unfold alg;rw[if_neg h1,if_neg h2]);go_enter Tryz.func148,Tryz.ntmps148;go_wp2;go_ret;exact⟨by rw[HE.out];rfl,HB.out _⟩
end Go.Proofs.YtabfapijgfjflaaGreat
