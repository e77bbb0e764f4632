import Derived.Test.YtabfapijgfjflaaGreatMQBv
import Derived.Test.YtabfapijgfjflaaGreatMQBp
import Derived.Test.YtabfapijgfjflaaGreatMQBz
import Derived.Test.YtabfapijgfjflaaGreatMQBl
import Derived.Test.YtabfapijgfjflaaGreatMQBb
import Derived.Deep.AppendLies
import Derived.Deep.RegionLaw
import Derived.Laws.IdiomCopy
import Derived.Shelf.RegionOpenPlain
import Derived.Lib.SliceRun
import Derived.Test.YtabfapijgfjflaaGreatMQBk
import Derived.BigQuiet
import Derived.Deep.QuietTactic
import Derived.Lib.QuietBelow
import Derived.Test.YtabfapijgfjflaaGreatMAl
set_option linter.unusedVariables false
set_option linter.unusedSimpArgs false
set_option maxRecDepth 100000
set_option maxHeartbeats 8000000
namespace Go.Proofs.YtabfapijgfjflaaGreat
open Go.RowKit
theorem aqj(x:LV)(hx:x.sz)(aM:Nat)(w:World)(hn:aM<=w.heap.size)(hX:aa1 aM w x):
 Calls Tryz.prog 53 #[x.v] w fun e w'=>e= .returned (.bool (ajf x.t3))/\Below w.heap.size w w':=by
 have hF:Below w.heap.size w (w.alloc x.obj):=(ag _ w).alloc (af _) _;have C:=ae (ahD x hx aM (w.alloc x.obj) (by simp;omega) (hX.below (hF.mono hn)));have HF:=ae hF;have HE:=ae (show ajf x.t3=(x.n&&ac4 x.l x.r) from rfl);clear hX hF hx;obtain⟨n,l,r,pa,ca,pb,cb⟩:=x;go_enter Tryz.func53,Tryz.ntmps53;cases n with
 |false=>
  go_wp2;go_ret;exact⟨by rw[HE.out];rfl,HF.out⟩
 |true=>
  go_wp2_with fail
  refine C.out.mono ?_;rintro e w2 ⟨rfl,hb⟩;have HB:=ae (HF.out.trans (hb.mono HF.out.size));clear hb C;simp only at HE ⊢;cases hq:ac4 l r
  all_goals
   have HQ:=ae hq;clear hq;go_wp2;go_ret;exact⟨by rw[HE.out,HQ.out];rfl,HB.out⟩
def av9(aM:Nat)(t:T)(w:World)(e:Ending)(w':World):Prop:=
 ∃a c,e= .returned (tm t.head a t.args.length c)/\aaj (fun b=>b<aM\/w.heap.size<=b/\b<w'.heap.size) w' t.args a c/\Below w.heap.size w w'
theorem akV(t:T)(ht:t.size<=1000000000000)(aM:Nat)(a:Option Addr)(c:Nat)(w:World)(hn:aM<=w.heap.size)(hwf:(Lit.int .i64 t.head).wf=true)(hA:aab aM w t.args a c):
 Calls Tryz.prog 54 #[tm t.head a t.args.length c] w (av9 aM t w):=by
 obtain⟨W1,hW1⟩:∃W1,(w.alloc (aaa t.head a t.args.length c)).alloc (aaa 0 none 0 0)=W1:=⟨_,rfl⟩;have hs1:W1.heap.size=w.heap.size+2:=by rw[←hW1];simp
 have hF:Below w.heap.size w W1:=by rw[←hW1];exact((ag _ w).alloc (af _) _).alloc (by simp) _
 have L:=ae (show ∀W,Below W1.heap.size W1 W->W.cell? ⟨w.heap.size,0,none⟩=some (.int .i64 t.head)/\W.cell? ⟨w.heap.size,1,none⟩=some (.slice a t.args.length c)/\W.cell? ⟨w.heap.size+1,0,none⟩=some (.int .i64 0)/\W.cell? ⟨w.heap.size+1,1,none⟩=some (.slice none 0 0)/\W.frozen? ⟨w.heap.size+1,0,none⟩=false/\W.frozen? ⟨w.heap.size+1,1,none⟩=false from fun W hW=>
  ⟨(hW.cell (p:=⟨w.heap.size,0,none⟩) (by simp;omega)).trans (by rw[←hW1];simp[go_sem]),(hW.cell (p:=⟨w.heap.size,1,none⟩) (by simp;omega)).trans (by rw[←hW1];simp[go_sem]),(hW.cell (p:=⟨w.heap.size+1,0,none⟩) (by simp;omega)).trans (by rw[←hW1];simp[go_sem]),(hW.cell (p:=⟨w.heap.size+1,1,none⟩) (by simp;omega)).trans (by rw[←hW1];simp[go_sem]),(hW.frozen (p:=⟨w.heap.size+1,0,none⟩) (by simp;omega)).trans (by rw[←hW1];simp[go_sem]),(hW.frozen (p:=⟨w.heap.size+1,1,none⟩) (by simp;omega)).trans (by rw[←hW1];simp[go_sem])⟩)
 have CC:=ae (aca t ht aM a c W1 (by omega) hwf (hA.below (hF.mono hn)));have CP:=ae (fun(W:World) (hW:Below W1.heap.size W1 W)=>amM t ht aM a c W (by have:=hW.size;omega) hwf (hA.below ((hF.trans (hW.mono hF.size)).mono hn)));have HA:=ae hA;have HF:=ae hF;have HS1:=ae hs1;clear hA hF hs1;obtain⟨c0,c1,r0,r1,rf0,rf1⟩:=L.out W1 (ag _ _);go_enter Tryz.func54,Tryz.ntmps54
 go_wp2_with fail
 clear c0 c1 r0 r1 rf0 rf1 hW1;refine CC.out.mono ?_;rintro e w2 ⟨rfl,hb2⟩;have HB2:=ae hb2;obtain⟨c0,c1,r0,r1,rf0,rf1⟩:=L.out w2 hb2;have hF2:Below w.heap.size w w2:=HF.out.trans (hb2.mono HF.out.size);have HF2:=ae hF2;have hz2:=hb2.size;clear hb2 hF2 CC;obtain⟨k,hk⟩:∃k,t.check=k:=⟨_,rfl⟩;rw[hk];clear hk;by_cases h:k=2
 ·subst h;go_wp2;refine bodyPost_ret (v:=tm t.head a t.args.length c) (by simp[results,Tryz.results54,go_sem,r0,r1]) rfl ?_;have hB:Below w.heap.size w ((w2.setCell ⟨w.heap.size+1,0,none⟩ (.int .i64 t.head)).setCell ⟨w.heap.size+1,1,none⟩ (.slice a t.args.length c)):=(HF2.out.setCell (p:=⟨w.heap.size+1,0,none⟩) (by simp) _).setCell (p:=⟨w.heap.size+1,1,none⟩) (by simp) _;exact⟨a,c,rfl,(aao.2 (HA.out.below (hB.mono hn))).keep (fun _ _=>rfl) (fun b hb=> .inl hb),hB⟩
 ·have h':(k==2)=false:=by simpa using h
  go_wp2_with fail
  clear c0 c1 r0 r1 rf0 rf1;refine(CP.out w2 HB2.out).mono ?_;rintro e w3 ⟨a3,c3,rfl,hA3,hb3⟩;obtain⟨c0,c1,r0,r1,rf0,rf1⟩:=L.out w3 (HB2.out.trans (hb3.mono hz2));have HA3:=ae hA3;have HB3:=ae hb3;clear hA3 hb3;go_wp2;refine bodyPost_ret (v:=tm t.head a3 t.args.length c3) (by simp[results,Tryz.results54,go_sem,r0,r1]) rfl ?_;have hB:Below w.heap.size w ((w3.setCell ⟨w.heap.size+1,0,none⟩ (.int .i64 t.head)).setCell ⟨w.heap.size+1,1,none⟩ (.slice a3 t.args.length c3)):=((HF2.out.trans (HB3.out.mono HF2.out.size)).setCell (p:=⟨w.heap.size+1,0,none⟩) (by simp) _).setCell (p:=⟨w.heap.size+1,1,none⟩) (by simp) _;refine⟨a3,c3,rfl,HA3.out.keep (fun b hb=>(an _ _ _ _ (by have:=hb.1;have:=HS1.out;show b≠w.heap.size+1;omega)).trans (an _ _ _ _ (by have:=hb.1;have:=HS1.out;show b≠w.heap.size+1;omega))) (fun b hb=> .inr ⟨by have:=hb.1;have:=HS1.out;omega,by have:=hb.2.lt;simp;exact this⟩),hB⟩
theorem amf(x o:LV)(hx:x.sz)(aM B2:Nat)(W:World)(hn:aM<=W.heap.size)(hX:aa1 aM W x)(hO:aa1 aM W o)(h2:B2<W.heap.size)(hl:Lc B2 o W):
 Calls Tryz.prog 97 #[x.v,.pointer (some ⟨B2,0,none⟩)] W fun e w'=>e= .returned (.bool (acF x.t3 o.t3))/\Below W.heap.size W w':=by
 obtain⟨W1,hW1⟩:∃W1,W.alloc x.obj=W1:=⟨_,rfl⟩;have hF1:Below W.heap.size W W1:=by rw[←hW1];exact(ag _ W).alloc (af _) _
 obtain⟨x0,x1,x2,x3,x4⟩:=(show aai (Lc W.heap.size x) W1 from by rw[←hW1];exact abS W x).now;obtain⟨l0,l1,l2,l3,l4⟩:=hl;have k0:=(hF1.cell (p:=⟨B2,0,none⟩) h2).trans l0;have k1:=(hF1.cell (p:=⟨B2,1,none⟩) h2).trans l1;have k2:=(hF1.cell (p:=⟨B2,2,none⟩) h2).trans l2;have k3:=(hF1.cell (p:=⟨B2,3,none⟩) h2).trans l3;have k4:=(hF1.cell (p:=⟨B2,4,none⟩) h2).trans l4;have HC:=ae (ame x o hx aM W1 (aE hn hF1.size) (hX.below (hF1.mono hn)) (hO.below (hF1.mono hn)));have HE:=ae (show avp x.n x.l x.r o.n o.l o.r=acF x.t3 o.t3 from rfl);have HF1:=ae hF1;clear hX hO hF1 l0 l1 l2 l3 l4;go_enter Tryz.func97,Tryz.ntmps97
 go_wp2_with fail
 refine HC.out.mono ?_;rintro e w2 ⟨rfl,hb2⟩;have HB:=ae (HF1.out.trans (hb2.mono HF1.out.size));clear hb2;go_wp2;go_ret;exact⟨by rw[←HE.out];rfl,HB.out⟩
structure TdS (aM Bp:Nat) (S O:List LV) (sv ov:Value) (w W:World):Prop where
 b:Below Bp w W
 z:Bp<W.heap.size
 c:W.cell? ⟨Bp,0,none⟩=some sv
 f:W.frozen? ⟨Bp,0,none⟩=false
 s:OL (· <aM) (Bp+1) sv S W
 o:∃ok:Nat->Prop,OL ok (Bp+1) ov O W/\∀b,ok b->b<W.heap.size/\ov.ownBlock≠some b/\sv.ownBlock≠some b/\b≠Bp
 ne:∀g,sv.ownBlock=some g->ov.ownBlock≠some g
theorem TdS.later{aM Bp:Nat}{S O:List LV}{sv ov:Value}{w W W':World}(h:TdS aM Bp S O sv ov w W)(hn:aM<=Bp)(hb:Below W.heap.size W W'):TdS aM Bp S O sv ov w W':=by
 have hz:=h.z;obtain⟨ok,h1,h2⟩:=h.o;exact⟨h.b.trans (hb.mono (by omega)),by have:=hb.size;omega,(hb.cell (p:=⟨Bp,0,none⟩) hz).trans h.c,(hb.frozen (p:=⟨Bp,0,none⟩) hz).trans h.f,h.s.later (fun b hk=>by have:b<aM:=hk;omega) hb,⟨ok,h1.later (fun b hk=>(h2 b hk).1) hb,fun b hk=>⟨by have:=(h2 b hk).1;have:=hb.size;omega,(h2 b hk).2⟩⟩,h.ne⟩
def awa(aM Bp:Nat)(S O:List LV)(x:LV)(sv ov:Value)(w W:World)(e:Ending)(w':World):Prop:=
 ((t3s S).any (fun y=>acF y x.t3)=true/\e= .returned (.bool false)/\TdS aM Bp S O sv ov w w'/\Below Bp W w')\/
 ((t3s S).any (fun y=>acF y x.t3)=false/\e= .returned (.bool true)/\∃sv',TdS aM Bp (S++[x]) O sv' ov w w'/\(sv'.ownBlock=sv.ownBlock\/∃g,sv'.ownBlock=some g/\W.heap.size<=g)/\(∀b,b<W.heap.size->b≠Bp->sv.ownBlock≠some b->w'.heap[b]? =W.heap[b]?)/\Below Bp W w')
theorem aoo(aM Bp:Nat)(S O:List LV)(x:LV)(hsl:S.length<=1000000)(hss:∀y∈S,y.sz)(sv ov:Value)(w W:World)(hn:aM<=Bp)(hT:TdS aM Bp S O sv ov w W)(hX:aa1 aM W x):
 Calls Tryz.prog 95 #[x.v,.pointer (some ⟨Bp,0,none⟩)] W (awa aM Bp S O x sv ov w W):=by
 have hz:=hT.z;obtain⟨W1,hW1⟩:∃W1,W.alloc x.obj=W1:=⟨_,rfl⟩;have hs1:W1.heap.size=W.heap.size+1:=by rw[←hW1];simp
 have hF1:Below W.heap.size W W1:=by rw[←hW1];exact(ag _ W).alloc (af _) _
 have L:=(show aai (Lc W.heap.size x) W1 from by rw[←hW1];exact abS W x);obtain⟨x0,x1,x2,x3,x4⟩:=L.now;have hT1:=hT.later hn hF1;obtain⟨ps,cs,rfl,hcl⟩:=hT1.s.args (fun b hb=>by have:b<aM:=hb;omega);have c0:=hT1.c;have eg:=enters_of Tryz.func97 (by kernel_rfl) rfl
 have HC:=ae (ajx (fun y=>acF y x.t3) 97 #[.pointer (some ⟨W.heap.size,0,none⟩)] eg S W1.heap.size ps cs W1 (af _) hcl
  (fun X t ht hX' htl=>amf t x (hss t ht) W1.heap.size W.heap.size X hX'.size htl ((((hX.below (hF1.mono (by omega))).mono (by omega))).below hX') (by have:=hX'.size;omega) (L.mv hX').now))
 have HT1:=ae hT1;have HX:=ae (hX.below (hF1.mono (by omega)));have HF1:=ae hF1;have HL:=ae L;clear hT hT1 hX hF1 L hcl eg;go_enter Tryz.func95,Tryz.ntmps95
 go_wp2_with fail
 refine HC.out.mono ?_;rintro e w2 ⟨rfl,hb2⟩;have HB2:=ae hb2;have hz2:=hb2.size;have HT2:=ae (HT1.out.later hn hb2);clear hb2 HC x0 x1 x2 x3 x4 c0 hW1;cases hq:(t3s S).any (fun y=>acF y x.t3) with
 |true=>
  have HQ:=ae hq;clear hq;go_wp2;go_ret;exact .inl ⟨HQ.out,rfl,HT2.out,(HF1.out.mono (by omega)).trans (HB2.out.mono (by omega))⟩
 |false=>
  have HQ:=ae hq;clear hq;obtain⟨x0,x1,x2,x3,x4⟩:=HL.out w2 HB2.out;have c0:=HT2.out.c;have cf:=HT2.out.f;have hbn:Bp≠w2.heap.size:=by omega
  obtain⟨W3,hW3⟩:∃W3,w2.alloc x.obj=W3:=⟨_,rfl⟩;have hs3:W3.heap.size=w2.heap.size+1:=by rw[←hW3];simp
  have hF3:Below w2.heap.size w2 W3:=by rw[←hW3];exact(ag _ w2).alloc (af _) _
  have HT3:=ae (HT2.out.later hn hF3);obtain⟨y0,y1,y2,y3,y4⟩:=(show aai (Lc w2.heap.size x) W3 from by rw[←hW3];exact abS w2 x).now;have HS:=ae (show apv W3 [x] (some ⟨w2.heap.size,0,none⟩) 1 from apv.of_one ⟨y0,by simpa using y1,by simpa using y2,by simpa using y3,by simpa using y4⟩);have HF3:=ae hF3;have c3:=HT3.out.c;have cf3:=HT3.out.f;clear hF3 y0 y1 y2 y3 y4
  go_wp2_with (at_builtin;refine aaG ?_)
  refine ae ?_;refine ab5 rfl _ _ rfl (· <aM) (Bp+1) (.slice ps S.length cs) S rfl HT3.out.s (by omega) [x] (some ⟨w2.heap.size,0,none⟩) 1 rfl HS.out (by simp;omega) ?_;intro v' w4 hown hgr hv;have hz4:=hgr.size;have hnB:(Value.slice ps S.length cs).ownBlock≠some Bp:=fun e=>by have:=(HT3.out.s.block e).1;omega
  have hbl:∀b,b<W3.heap.size->(Value.slice ps S.length cs).ownBlock≠some b->w4.heap[b]? =W3.heap[b]? :=fun b h1 h2=>hgr.block b h1 (fun e=>h2 e.symm);have hc4:w4.cell? ⟨Bp,0,none⟩=some (.slice ps S.length cs):=(aq (a:=⟨Bp,0,none⟩) (hbl Bp (by omega) hnB)).trans c3;have hf4:w4.frozen? ⟨Bp,0,none⟩=false:=(World.frozen?_of_block (a:=⟨Bp,0,none⟩) (hbl Bp (by omega) hnB)).trans cf3
  have hOL:OL (· <aM) (Bp+1) v' (S++[x]) w4:=HT3.out.s.append hown hgr (fun b hb=>⟨by have:b<aM:=hb;omega,fun e=>by have h1:=(HT3.out.s.block e).1;have:b<aM:=hb;omega⟩) (fun y hy=>by
   simp at hy;subst hy
   exact ac7.2 ((HX.out.below (HB2.out.mono (by omega))).below (HF3.out.mono (by omega))))
  obtain⟨pv',cv',rfl,_⟩:=hOL.args (fun b hb=>by have:b<aM:=hb;omega)
  have hvb:(Value.slice pv' (S++[x]).length cv').ownBlock=(Value.slice ps S.length cs).ownBlock\/∃g,(Value.slice pv' (S++[x]).length cv').ownBlock=some g/\W.heap.size<=g:=by
   rcases hv with hv|hv
   ·exact .inl hv
   ·exact .inr ⟨_,hv,by omega⟩
  have hfin:TdS aM Bp (S++[x]) O (.slice pv' (S++[x]).length cv') ov w (w4.setCell ⟨Bp,0,none⟩ (.slice pv' (S++[x]).length cv'))/\(∀b,b<W.heap.size->b≠Bp->(Value.slice ps S.length cs).ownBlock≠some b->(w4.setCell ⟨Bp,0,none⟩ (.slice pv' (S++[x]).length cv')).heap[b]? =W.heap[b]?)/\Below Bp W (w4.setCell ⟨Bp,0,none⟩ (.slice pv' (S++[x]).length cv')):=by
   have hset:∀b,b≠Bp->(w4.setCell ⟨Bp,0,none⟩ (.slice pv' (S++[x]).length cv')).heap[b]? =w4.heap[b]? :=fun b h=>an _ _ _ _ h;have hvB:(Value.slice pv' (S++[x]).length cv').ownBlock≠some Bp:=fun e=>by have:=(hOL.block e).1;omega
   obtain⟨ok,ho1,ho2⟩:=HT3.out.o;have hov:∀g,ov.ownBlock=some g->g<W3.heap.size/\(Value.slice ps S.length cs).ownBlock≠some g/\Bp+1<=g:=fun g hg=>⟨(ho1.block hg).2,fun e=>HT3.out.ne g e hg,(ho1.block hg).1⟩;have adn:∀b,b<W3.heap.size->(Value.slice ps S.length cs).ownBlock≠some b->b≠Bp->(w4.setCell ⟨Bp,0,none⟩ (.slice pv' (S++[x]).length cv')).heap[b]? =W3.heap[b]? :=fun b h1 h2 h3=>(hset b h3).trans (hbl b h1 h2);have hsz:(w4.setCell ⟨Bp,0,none⟩ (.slice pv' (S++[x]).length cv')).heap.size=w4.heap.size:=by simp
   have hnew:∀b,b<W3.heap.size->(Value.slice ps S.length cs).ownBlock≠some b->(Value.slice pv' (S++[x]).length cv').ownBlock≠some b:=fun b h1 h2 e=>by
    rcases hv with hv|hv
    ·exact h2 (hv▸e)
    ·rw[hv] at e;cases e;omega
   have h4:Below Bp W3 w4:=(ag Bp W3).grown hgr (by omega) (fun g hg=>by have:=(HT3.out.s.block hg).1;omega);refine⟨⟨?_,by rw[hsz];omega,?_,?_,?_,⟨ok,?_,fun b hb=> ?_⟩,?_⟩,fun b h1 h2 h3=> ?_,(((HF1.out.mono (by omega)).trans (HB2.out.mono (by omega))).trans (HF3.out.mono (by omega))).trans (h4.setCell (p:=⟨Bp,0,none⟩) (af _) _)⟩
   ·exact HT3.out.b.trans (h4.setCell (p:=⟨Bp,0,none⟩) (af _) _)
   ·exact World.cell?_setCell_same' _ _ _ (by rw[hc4];rfl)
   ·rw[World.frozen?_setCell];exact hf4
   ·exact hOL.kept (fun g hg=>hset g (fun e=>hvB (by rw[hg,e]))) (fun b hb=>hset b (by have:b<aM:=hb;omega)) (fun _ x=>x)
   ·exact ho1.kept (fun g hg=>adn g (hov g hg).1 (hov g hg).2.1 (by have:=(hov g hg).2.2;omega)) (fun b hb=>adn b (ho2 b hb).1 (ho2 b hb).2.2.1 (ho2 b hb).2.2.2) (fun _ x=>x)
   ·obtain⟨q1,q2,q3,q4⟩:=ho2 b hb;exact⟨by rw[hsz];omega,q2,hnew b q1 q3,q4⟩
   ·intro g hg hg2;exact hnew g (hov g hg2).1 (hov g hg2).2.1 hg
   ·exact(adn b (by omega) h3 h2).trans ((HF3.out.block b (by omega)).trans ((HB2.out.block b (by omega)).trans (HF1.out.block b h1)))
  rw[show(S++[x]).length=S.length+1 from by simp] at hfin hvb;have HFIN:=ae hfin;have HVB:=ae hvb;clear hown hgr hv hbl hvb hfin;go_wp2;go_ret;exact .inr ⟨HQ.out,rfl,_,HFIN.out.1,HVB.out,HFIN.out.2.1,HFIN.out.2.2⟩
theorem TdS.grow{aM Bp k g cap:Nat}{S O:List LV}{sv ov:Value}{w w4 uf w8:World}{ob:Obj}{z:LV}(hT:TdS aM Bp S O sv ov w w4)(hn:aM<=Bp)(hB:Below w4.heap.size w4 uf)(hz:adB (fun b=>b<aM\/w4.heap.size<=b/\b<uf.heap.size) uf z)(hk:O.length=k)
 (hown:w8.ownsRow (Bp+1) 62 5 (.slice (some ⟨g,0,none⟩) (k+1) cap) (k+1) (aaf O++z.cells)) (hgrow:(uf.alloc ob).grownBy w8 ov.ownBlock) (hat:ov.ownBlock=some g\/g=uf.heap.size+1):
 TdS aM Bp S (O++[z]) sv (.slice (some ⟨g,0,none⟩) (k+1) cap) w w8:=by
 have hsz:(uf.alloc ob).heap.size=uf.heap.size+1:=by simp
 have hz8:=hgrow.size;have hbs:=hB.size;have hz4:=hT.z;obtain⟨ok,ho1,ho2⟩:=hT.o;have hbu:∀b,b<uf.heap.size->ov.ownBlock≠some b->w8.heap[b]? =uf.heap[b]? :=fun b h1 h2=>(hgrow.block b (by omega) (fun e=>h2 e.symm)).trans (az _ _ _ h1);have hbk:∀b,b<w4.heap.size->ov.ownBlock≠some b->w8.heap[b]? =w4.heap[b]? :=fun b h1 h2=>(hbu b (by omega) h2).trans (hB.block b h1);have hoB:ov.ownBlock≠some Bp:=fun e=>by have:=(ho1.block e).1;omega
 have hon:∀b,b<aM->ov.ownBlock≠some b:=fun b hb e=>by have:=(ho1.block e).1;omega
 have hou:∀b,w4.heap.size<=b->ov.ownBlock≠some b:=fun b hb e=>by have:=(ho1.block e).2;omega
 have hsn:∀b,b<aM->sv.ownBlock≠some b:=fun b hb e=>by have:=(hT.s.block e).1;omega
 have hsu:∀b,w4.heap.size<=b->sv.ownBlock≠some b:=fun b hb e=>by have:=(hT.s.block e).2;omega
 have hgn:∀b,b<uf.heap.size->ov.ownBlock≠some b->(Value.slice (some ⟨g,0,none⟩) (k+1) cap).ownBlock≠some b:=fun b h1 h2 e=>by
  have e':g=b:=by simpa[Value.ownBlock] using e
  subst e'
  rcases hat with hat|hat
  ·exact h2 hat
  ·omega
 refine⟨?_,by omega,?_,?_,?_,⟨fun b=>ok b\/b<aM\/w4.heap.size<=b/\b<uf.heap.size,⟨?_,fun y hy=> ?_⟩,fun b hb=> ?_⟩,fun b hb=> ?_⟩
 ·have h1:Below Bp w4 (uf.alloc ob):=(hB.mono (by omega)).alloc (by omega) _;exact hT.b.trans (h1.trans ((ag Bp _).grown hgrow (by omega) (fun q hq=>by have:=(ho1.block hq).1;omega)))
 ·exact(aq (a:=⟨Bp,0,none⟩) (hbk Bp hz4 hoB)).trans hT.c
 ·exact(World.frozen?_of_block (a:=⟨Bp,0,none⟩) (hbk Bp hz4 hoB)).trans hT.f
 ·exact hT.s.kept (fun b hb=>hbk b (hT.s.block hb).2 (hT.ne b hb)) (fun b hb=>hbk b (by have:b<aM:=hb;omega) (hon b hb)) (fun _ x=>x)
 ·rw[ac8,aK,hk];simpa[aaf] using hown
 ·rcases aG.1 hy with hy|hy
  ·exact(ho1.2 y hy).keep (fun b hb=>hbk b (ho2 b hb).1 (ho2 b hb).2.1) (fun b hb=> .inl hb)
  ·simp at hy;subst hy
   exact hz.keep (fun b hb=>hbu b (by omega) (by rcases hb with h|h;exact hon b h;exact hou b h.1)) (fun b hb=> .inr hb)
 ·rcases hb with hb|hb|hb
  ·obtain⟨q1,q2,q3,q4⟩:=ho2 b hb;exact⟨by omega,hgn b (by omega) q2,q3,q4⟩
  ·exact⟨by omega,hgn b (by omega) (hon b hb),hsn b hb,by omega⟩
  ·exact⟨by omega,hgn b hb.2 (hou b hb.1),hsu b hb.1,by omega⟩
 ·have h1:=(hT.s.block hb).2;exact hgn b (by omega) (hT.ne b hb)
theorem aop(w:World):Calls Tryz.prog 52 #[] w fun e w'=>e= .returned (.func (.func 95) #[] #[.pointer (some ⟨w.heap.size,0,none⟩)])/\w'=w.alloc (.cells #[.slice none 0 0] 23):=by
 go_enter Tryz.func52,Tryz.ntmps52;go_wp2;go_ret;exact⟨rfl,rfl⟩
def TdI(P:List LV)(aM:Nat)(w:World)(ov i:Value)(wr:World):Prop:=
 ∃(k:Nat) (S O:List LV) (sv:Value),k<=P.length/\i= .int .i64 k/\t3s S=tidy ((t3s P).take k)/\t3s O=tidy ((t3s P).take k)/\(∀y∈S,y∈P)/\TdS aM w.heap.size S O sv ov w wr
theorem afV(c:List Lt3)(k:Nat):(tidy (c.take k)).length<=c.length:=by
 have h:∀(c out:List Lt3),(c.foldl aif out).length<=out.length+c.length:=by
  intro c
  induction c with
  |nil=>intro out;simp
  |cons x c ih=>
   intro out;have h1:(aif out x).length<=out.length+1:=by unfold aif;split<;>simp
   have:=ih (aif out x);simp only[List.foldl_cons,List.length_cons];omega
 have:=h (c.take k) [];simp only[tidy,List.length_take,List.length_nil] at*;omega
theorem am8(P:List LV)(hl:P.length<=1000000)(hsz:∀x∈P,x.sz)(aM:Nat)(a:Option Addr)(c:Nat)(w:World)(hn:aM<=w.heap.size)(hP:aaV aM w P a c):
 Calls Tryz.prog 23 #[.slice a P.length c] w fun e w'=>∃(O:List LV) (p:Option Addr) (c':Nat),t3s O=tidy (t3s P)/\e= .returned (.slice p O.length c')/\aaV w'.heap.size w' O p c'/\Below w.heap.size w w':=by
 have hlc:P.length<=c/\c<=maxLen:=⟨hP.1,hP.2.1⟩;unfold maxLen at hlc;obtain⟨hl1,hl2⟩:=hlc;have HP:=ae hP;have HSZ:=ae hsz;have HN:=ae hn;clear hP hsz;obtain⟨i0,hi,hz0,hz1,hz2⟩:=info_parts agN;have eg:=enters_of Tryz.func95 (by kernel_rfl) rfl;go_enter Tryz.func23,Tryz.ntmps23
 go_wp2_with fail
 refine(aop w).mono ?_;rintro e w1 ⟨rfl,hw1⟩
 have HT0:=ae (show TdS aM w.heap.size [] [] (.slice none 0 0) (.slice none 0 0) w w1 from by
  rw[hw1];exact⟨(ag _ _).alloc (af _) _,by simp,by simp[go_sem],by simp[go_sem],OL.nil _ _ _,⟨fun _=>False,OL.nil _ _ _,fun _ h=>h.elim⟩,fun g hg=>by simp[Value.ownBlock] at hg⟩)
 clear hw1;go_wp2
 go_loopw [3,10] (fun ov i wr=>TdI P aM w ov i wr) (fun _ i _=>P.length-(intOf i).toNat)
 case atStart=>exact⟨0,[],[],_,Nat.zero_le _,rfl,rfl,rfl,by simp,HT0.out⟩
 case round=>
  obtain⟨k,S,O,sv,hk,rfl,hS,hO,hSP,hT⟩:=hrel;have HS:=ae hS;have HO:=ae hO;have HSP:=ae hSP;have HT:=ae hT;have hTz:=hT.z;clear hS hO hSP hT HT0;by_cases hlt:k<P.length
  ·obtain⟨b,o,x,rfl,hb,hx,⟨a0,a1,a2,a3,a4⟩,hxl⟩:=(HP.out.below (HT.out.b.mono HN.out)).elem (i:=k) hlt;have hxs:=HSZ.out x (ak hx);have hk0:(0:Int)<=(k:Int):=aw _;have hk1:(k:Int)<(P.length:Int):=by omega
   have hnn:=HN.out;have hbw:b<wr.heap.size:=by omega
   obtain⟨W2,hW2⟩:∃W2,wr.alloc x.obj=W2:=⟨_,rfl⟩;have hs2:W2.heap.size=wr.heap.size+1:=by rw[←hW2];simp
   have hF2:Below wr.heap.size wr W2:=by rw[←hW2];exact(ag _ wr).alloc (af _) _
   have L2:=(show aai (Lc wr.heap.size x) W2 from by rw[←hW2];exact abS wr x);have hx2:aa1 aM W2 x:=hxl.below (hF2.mono (by omega));have CN:=ae (aqj x hxs aM W2 (by omega) hx2);have HT2:=ae (HT.out.later hn hF2);have HL2:=ae L2;have HX:=ae (akD (acr hx));have HXM:=ae (ak hx);have HX2:=ae hx2;have HSV:=ae (show sv.ownBlock≠some wr.heap.size from fun e=>by have:=(HT.out.s.block e).2;omega);obtain⟨l0,l1,l2,l3,l4⟩:=L2.now;clear hx hxl hF2 L2 hx2
   go_wp2_with fail
   refine CN.out.mono ?_;rintro e w3 ⟨rfl,hb3⟩;have HT3:=ae (HT2.out.later hn hb3);have hz3:=hb3.size;have HL3:=ae (HL2.out w3 hb3);have HX3:=ae (HX2.out.below (hb3.mono (by omega)));have HB3:=ae hb3;clear hb3 CN HT2 l0 l1 l2 l3 l4 a0 a1 a2 a3 a4 hW2;cases hv:ajf x.t3 with
   |true=>
    have HE:=ae (show tidy ((t3s P).take (k+1))=tidy ((t3s P).take k) from by
     rw[HX.out];unfold aif ajg;rw[hv];rfl)
    clear hv;go_wp2
    go_roundw
    case rel=>exact⟨k+1,S,O,sv,by omega,by go_num,by rw[HE.out];exact HS.out,by rw[HE.out];exact HO.out,HSP.out,HT3.out⟩
    case measure=>simp[intOf];omega
   |false=>
    have HV:=ae hv;clear hv
    have hSl:S.length<=1000000:=by
     have h1:=congrArg List.length HS.out;have h2:=afV (t3s P) k;rw[←h1] at h2;simp at h2;omega
    have CF:=ae (aoo aM w.heap.size S O x hSl (fun y hy=>HSZ.out y (HSP.out y hy)) sv u3 w w3 hn HT3.out HX3.out);obtain⟨l0,l1,l2,l3,l4⟩:=HL3.out;clear hSl
    go_wp2_with fail
    refine CF.out.mono ?_;rintro e w4 hF;clear l0 l1 l2 l3 l4 CF
    rcases hF with⟨hq,rfl,hT4,hfr⟩|⟨hq,rfl,sv',hT4,hsv',hfr,hb4⟩
    ·have HE:=ae (show tidy ((t3s P).take (k+1))=tidy ((t3s P).take k) from by
      rw[HX.out];unfold aif ajg;rw[HV.out,←HS.out,hq];rfl)
     have HT4:=ae hT4;clear hq hT4 hfr;go_wp2
     go_roundw
     case rel=>exact⟨k+1,S,O,sv,by omega,by go_num,by rw[HE.out];exact HS.out,by rw[HE.out];exact HO.out,HSP.out,HT4.out⟩
     case measure=>simp[intOf];omega
    ·have HE:=ae (show tidy ((t3s P).take (k+1))=tidy ((t3s P).take k)++[x.t3] from by
      rw[HX.out];unfold aif ajg;rw[HV.out,←HS.out,hq];rfl)
     have HT4:=ae hT4;have hz4:=hT4.b.size;have hBz:=hT4.z
     have KP:=ae (show ∀W,Below w4.heap.size w4 W->Lc wr.heap.size x W from fun W hW=>by
      have e:∀i,W.cell? ⟨wr.heap.size,i,none⟩=w3.cell? ⟨wr.heap.size,i,none⟩:=fun i=>
       aq (a:=⟨wr.heap.size,i,none⟩) ((hW.block _ (by
        have h5:=hfr wr.heap.size (by omega) (by omega) HSV.out;have h6:(w3.heap[wr.heap.size]?).isSome:=by rw[Array.getElem?_eq_getElem (by omega)];rfl
        rw[←h5] at h6;obtain⟨y,hy⟩:=Option.isSome_iff_exists.1 h6;exact(aj.1 hy).1)).trans (hfr wr.heap.size (by omega) (by omega) HSV.out))
      obtain⟨l0,l1,l2,l3,l4⟩:=HL3.out;exact⟨(e _).trans l0,(e _).trans l1,(e _).trans l2,(e _).trans l3,(e _).trans l4⟩)
     have hz34:=hb4.size;have HX4:=ae (show ∀W,Below w4.heap.size w4 W->aa1 aM W x/\aM<=W.heap.size from fun W hW=>⟨HX3.out.below ((hb4.mono hn).trans (hW.mono (by omega))),by have:=hW.size;omega⟩)
     have HSP2:=ae (show ∀y∈S++[x],y∈P from fun y hy=>by
      rcases aG.1 hy with hy|hy
      ·exact HSP.out y hy
      ·simp at hy;subst hy;exact HXM.out)
     have HS2:=ae (show t3s (S++[x])=tidy ((t3s P).take (k+1)) from by rw[HE.out,←HS.out];simp);have CL:=ae (fun(W:World) (hW:Below w4.heap.size w4 W)=>show Calls Tryz.prog 54 #[tm x.l.head x.pa x.l.args.length x.ca] W (fun e u=>∃a2 c2,e= .returned (tm x.l.head a2 x.l.args.length c2)/\aaj (fun b=>b<aM\/W.heap.size<=b/\b<u.heap.size) u x.l.args a2 c2/\Below W.heap.size W u) from akV x.l hxs.1 aM x.pa x.ca W (HX4.out W hW).2 (HX4.out W hW).1.lw (HX4.out W hW).1.la);have CR:=ae (fun(W:World) (hW:Below w4.heap.size w4 W)=>show Calls Tryz.prog 54 #[tm x.r.head x.pb x.r.args.length x.cb] W (fun e u=>∃a2 c2,e= .returned (tm x.r.head a2 x.r.args.length c2)/\aaj (fun b=>b<aM\/W.heap.size<=b/\b<u.heap.size) u x.r.args a2 c2/\Below W.heap.size W u) from akV x.r hxs.2 aM x.pb x.cb W (HX4.out W hW).2 (HX4.out W hW).1.rw (HX4.out W hW).1.ra);obtain⟨ok,ho1,_⟩:=hT4.o;have hown:=ho1.1;obtain⟨m,hm⟩:∃m,O.length=m:=⟨_,rfl⟩
     have hml:m<=k:=by
      have h1:=congrArg List.length HO.out;have h2:(tidy ((t3s P).take k)).length<=((t3s P).take k).length:=by have:=afV ((t3s P).take k) ((t3s P).take k).length;rwa[List.take_length] at this
      rw[←h1] at h2;simp at h2;omega
     rw[hm] at hown;have HOWN:=ae hown;have HM:=ae hm;have hmm:m+1<=maxLen:=by unfold maxLen;omega
     have hD4:Below w4.heap.size w4 w4.drew:=(ag _ _).drew;have HWF:=ae (And.intro HX3.out.lw HX3.out.rw);obtain⟨l0,l1,l2,l3,l4⟩:=KP.out w4 (ag _ _);clear hT4 ho1 hown hm hfr hb4 hq hsv';go_wp2
     go_region_law (first
      |(refine step_append_lies _ (by rfl) _ _ _ (by rfl) (w.heap.size+1) 62 i0 _ 5 72 Tryz.underlying23 hi hz0 hz1 hz2 rfl (by omega) u3 m (aaf O) (by rfl) ((aaM HOWN.out hBf).alloc _) ⟨uf.heap.size,0,none⟩ 1 1 [.bool x.n,.int .i64 x.l.head,.slice aL x.l.args.length cL,.int .i64 x.r.head,.slice aR x.r.args.length cR] (by rfl) (by rfl) (World.news_of_block (cs:=#[.bool x.n,.int .i64 x.l.head,.slice aL x.l.args.length cL,.int .i64 x.r.head,.slice aR x.r.args.length cR]) (t:=62) (fr:=(0,0)) (heap_alloc_new uf _)) (by simp[Value.oneCell']) (by omega) hmm (by omega) (by simp;omega) (uf.heap.size+1) (by simp) ?_;intro g cap w8 hown8 hgrow8 hat8 hlt8)
      |(go_simp;go_at_call 54;(with_reducible refine(CL.out _ hD4).mono ?_);rintro e u1 ⟨aL,cL,rfl,hIL,hb1⟩;have hB1:Below w4.heap.size w4 u1:=⟨hb1.os,hb1.tape,hb1.output,hb1.size,hb1.block⟩;obtain⟨l0,l1,l2,l3,l4⟩:=KP.out u1 hB1;have hzL:=hB1.size)
      |(go_simp;go_at_call 54;(with_reducible refine(CR.out _ hB1).mono ?_);rintro e uf ⟨aR,cR,rfl,hIR,hb2⟩;have hBf:Below w4.heap.size w4 uf:=hB1.trans (hb2.mono hB1.size);have hzf:=hBf.size;obtain⟨l0,l1,l2,l3,l4⟩:=KP.out uf hBf;have hIL':=hIL.keep (ok':=fun b=>b<aM\/w4.heap.size<=b/\b<uf.heap.size) (fun b hb=>hb2.block b (by have:=hzL;rcases hb with h|h;omega;exact h.2)) (fun b hb=>by have:=hb2.size;rcases hb with h|h;exact .inl h;exact .inr ⟨h.1,by omega⟩);have hIR':=hIR.keep (ok':=fun b=>b<aM\/w4.heap.size<=b/\b<uf.heap.size) (fun _ _=>rfl) (fun b hb=>by rcases hb with h|h;exact .inl h;exact .inr ⟨aE hzL h.1,h.2⟩))
      |(go_simp;go_at_call 54;(with_reducible refine(CR.out _ hD4).mono ?_);rintro e v1 ⟨aR,cR,rfl,hIR,hb1⟩;have hB1':Below w4.heap.size w4 v1:=⟨hb1.os,hb1.tape,hb1.output,hb1.size,hb1.block⟩;obtain⟨l0,l1,l2,l3,l4⟩:=KP.out v1 hB1';have hzR:=hB1'.size)
      |(go_simp;go_at_call 54;(with_reducible refine(CL.out _ hB1').mono ?_);rintro e uf ⟨aL,cL,rfl,hIL,hb2⟩;have hBf:Below w4.heap.size w4 uf:=hB1'.trans (hb2.mono hB1'.size);have hzf:=hBf.size;obtain⟨l0,l1,l2,l3,l4⟩:=KP.out uf hBf;have hIR':=hIR.keep (ok':=fun b=>b<aM\/w4.heap.size<=b/\b<uf.heap.size) (fun b hb=>hb2.block b (by have:=hzR;rcases hb with h|h;omega;exact h.2)) (fun b hb=>by have:=hb2.size;rcases hb with h|h;exact .inl h;exact .inr ⟨h.1,by omega⟩);have hIL':=hIL.keep (ok':=fun b=>b<aM\/w4.heap.size<=b/\b<uf.heap.size) (fun _ _=>rfl) (fun b hb=>by rcases hb with h|h;exact .inl h;exact .inr ⟨aE hzR h.1,h.2⟩)))
     all_goals
      have HN4:=ae (HT4.out.grow (z:=⟨x.n,x.l,x.r,aL,cL,aR,cR⟩) hn hBf ⟨HWF.out.1,HWF.out.2,hIL',hIR'⟩ HM.out hown8 hgrow8 hat8);have HO2:=ae (show t3s (O++[⟨x.n,x.l,x.r,aL,cL,aR,cR⟩])=tidy ((t3s P).take (k+1)) from by rw[HE.out,←HO.out];simp[LV.t3]);clear hown8 hgrow8 hat8 hlt8 hIL' hIR';go_wp2
      go_roundw
      case rel=>exact⟨k+1,S++[x],O++[⟨x.n,x.l,x.r,aL,cL,aR,cR⟩],sv',by omega,by go_num,HS2.out,HO2.out,HSP2.out,HN4.out⟩
      case measure=>simp[intOf];omega
  ·obtain rfl:k=P.length:=by omega
   obtain⟨ok,ho1,ho2⟩:=HT.out.o;obtain⟨p,c',rfl,hR⟩:=ho1.args (fun b hb=>(ho2 b hb).1);have HR:=ae hR
   have HE:=ae (show t3s O=tidy (t3s P) from by
    have h:=HO.out;rwa[List.take_of_length_le (by simp)] at h)
   clear hR ho1 ho2;go_wp2;go_ret;exact⟨O,p,c',HE.out,rfl,HR.out,HT.out.b⟩
def WvI(m:Ip)(f:List Int)(ts:List T)(w:World)(p i:Value)(wr:World):Prop:=∃k:Nat,k<=ts.length/\i= .int .i64 k/\p= .int .i64 (adF m f 0 (ts.take k))/\Below w.heap.size w wr
theorem ast{g:Sg}{t:T}(h:OkV g t):if t.head<0 then t.args=[]/\ -1-t.head<=255 else t.args.length<=8:=by
 have:=aaI h.2.1;unfold okB at this;split at this
 ·rename_i q;rw[if_pos q];simp only[Bool.and_eq_true,decide_eq_true_eq] at this;exact⟨aC this.1,this.2⟩
 ·rename_i q;rw[if_neg q];simp only[Bool.and_eq_true,decide_eq_true_eq] at this;exact this.2
theorem aqk{g:Sg}{m:Ip}(hm:abg g m=true){f:List Int}(hf:∀z∈f,0<=z/\z<m.size){t:T}(ht:OkV g t)(h0:0<=t.head):
 t.args.length<=4/\t.head.toNat<m.rows.length/\(∀s∈t.args,OkV g s/\0<=aby m f s/\aby m f s<m.size)/\(∀k,k<=t.args.length->0<=adF m f 0 (t.args.take k)/\adF m f 0 (t.args.take k)<256)/\
  ∀r,m.rows[t.head.toNat]? =some r->(adF m f 0 t.args).toNat<r.length:=by
 obtain⟨m1,m2,m3,m4,m5,m6⟩:=aa0 hm;obtain⟨x,hx,ha,hp⟩:=aph ht h0;obtain⟨r,hr,r1,r2,r3⟩:=m5 _ _ hx
 have hargs:∀s∈t.args,OkV g s/\0<=aby m f s/\aby m f s<m.size:=fun s hs=>by
  obtain⟨q1,q2⟩:=alI ht hs;obtain⟨q3,q4⟩:=ah3 hm hf s.size s (af _) q1;exact⟨q1,q3,q4 q2⟩
 have hl:t.args.length<=4:=by omega
 have hv:=ah2 (g:=g) m2 (fun s hs=>(hargs s hs).2);refine⟨hl,?_,hargs,fun k hk=> ?_,fun r' hr'=> ?_⟩
 ·have:=(ah.1 hx).1;omega
 ·have h1:=hv k hk;have h2:=agD (n:=k) m2 m3 (by omega);omega
 ·rw[hr] at hr';injection hr' with hr'
  subst hr';have h1:=hv t.args.length (af _);rw[List.take_length] at h1;rw[show x.ar.toNat=t.args.length from by omega] at r2;omega
theorem adX(g:Sg)(m:Ip)(hm:abg g m=true)(f:List Int)(hf:∀z∈f,0<=z/\z<m.size):∀(N:Nat) (t:T),t.size<=N->OkV g t->∀(aM:Nat) (ma:Option Addr) (mc:Nat) (fa:Option Addr) (fc:Nat) (a:Option Addr) (c:Nat) (w:World),aM<=w.heap.size->agB aM w m.rows ma mc->acP aM w f fa fc->(Lit.int .i64 t.head).wf=true->aab aM w t.args a c->
 Calls Tryz.prog 128 #[ipV m ma mc,.slice fa f.length fc,tm t.head a t.args.length c] w fun e w'=>e= .returned (.int .i64 (aby m f t))/\Below w.heap.size w w':=by
 intro N
 induction N with
 |zero=>intro t ht;have:=T.size_pos t;omega
 |succ N ih=>
  intro t ht hok aM ma mc fa fc a c w hn hM hF hw hA;have hfl:f.length<=fc/\fc<=maxLen:=⟨hF.1,hF.2.1⟩;unfold maxLen at hfl;obtain⟨hf1,hf2⟩:=hfl;have hoh:=ast hok;have IH:=ae ih;clear ih;have HF:=ae hf;have HVE:=ae (adr m f t);have HOK:=ae hok;have HM:=ae hm;have d0:=(((((aai.below (ag _ w)).and (aeP (hA.mono hn))).and (afJ (hF.mono hn))).and (adb (hM.mono hn))).pushI (ag _ _) m ma mc).push (ag _ _) t.head a t.args.length c;simp only[aah] at d0;have D:=ae d0;obtain⟨hwl1,hwl2⟩:=ahI hw;clear d0 hA hF hM hok hm;go_enter Tryz.func128,Tryz.ntmps128;by_cases q:t.head<0
  ·rw[if_pos q] at hoh;rw[if_pos q] at HVE;have hv:=hoh.2;clear hoh;by_cases ql:(-1-t.head).toNat<f.length
   ·obtain⟨fb,fo,z,rfl,hfb,hz,hcz⟩:=D.out.now.2.2.2.1.elem (k:=(-1-t.head).toNat) ql;have HE:=ae (show aby m f t=z from by rw[HVE.out,List.getD_eq_getElem?_getD,hz];rfl);have HQ:=ae D.out.now.2.2.2.2.2;have hq2: -1-t.head<(f.length:Int):=by omega
    rw[show((-1-t.head).toNat)=(-1-t.head).toNat from rfl] at hcz;clear hz HVE D HF HOK HM IH;go_wp2;go_ret;exact⟨by rw[HE.out];rfl,HQ.out⟩
   ·have HE:=ae (show aby m f t=0 from by rw[HVE.out,List.getD_eq_getElem?_getD,List.getElem?_eq_none (by omega)];rfl);have HQ:=ae D.out.now.2.2.2.2.2;have hq2:¬(-1-t.head<(f.length:Int)):=by omega
    clear HVE D HF HOK HM IH;go_wp2;go_ret;exact⟨by rw[HE.out];rfl,HQ.out⟩
  ·rw[if_neg q] at HVE;obtain⟨ha4,hrow,hargs,hpre,hend⟩:=aqk HM.out HF.out HOK.out (show 0<=t.head by omega);have HAR:=ae hargs;have HPR:=ae hpre;have HEN:=ae hend;obtain⟨hz1,hz2⟩:1<=m.size/\m.size<=4:=⟨(aa0 HM.out).2.1,(aa0 HM.out).2.2.1⟩;clear hargs hpre hend hoh;go_wp2;generalize (w.alloc (ipO m ma mc)).alloc (aaa t.head a t.args.length c)=w1 at D ⊢;generalize hb0:w.heap.size=b0 at D ⊢;have HB0:=ae hb0;clear hb0
   go_loopw [8,9] (fun p i wr=>WvI m f t.args w1 p i wr) (fun _ i _=>t.args.length-(intOf i).toNat)
   case atStart=>exact⟨0,Nat.zero_le _,rfl,by simp[adF],ag _ _⟩
   case round=>
    obtain⟨k,hk,rfl,rfl,hB⟩:=hrel;have HB:=ae hB;have D2:=ae (D.out.mv hB);have hbz:=hB.size;have HQ:=ae D2.out.now.2.2.2.2.2;obtain⟨⟨t0,t1⟩,⟨i0,i1⟩,hrs,_,har,_⟩:=D2.out.now;clear hB;by_cases hlt:k<t.args.length
    ·obtain⟨b,o,s,a',c',rfl,hbn,hs,hsw,hc0,hc1,hsa⟩:=har.elem hlt;have hk0:(0:Int)<=(k:Int):=aw _;have hk1:(k:Int)<(t.args.length:Int):=by omega
     have hsm:=ak hs;have hsz:s.size<=N:=by have:=T.size_lt_of_mem hs;have:=T.size_eq t;omega
     have HST:=ae (akq (m:=m) (f:=f) hs);obtain⟨hos,hv0,hv1⟩:=HAR.out s hsm;have hp0:=HPR.out k hk;have hp1:=HPR.out (k+1) (by omega);have CV:=ae (fun(W:World) (hW:Below wr.heap.size wr W)=>IH.out s hsz hos W.heap.size ma mc fa fc a' c' W (af _) (D2.out.mv hW).now.2.2.1 (D2.out.mv hW).now.2.2.2.1 hsw ((hsa.below hW).mono hW.size));have hm1:0<=adF m f 0 (t.args.take k)*m.size:=Int.mul_nonneg hp0.1 (by omega);have HST':=HST.out;have hw1:IntKind.i64.wrap (adF m f 0 (t.args.take k)*m.size)=adF m f 0 (t.args.take k)*m.size:=IntWalk.i64_in _ (by omega)
     have hw2:IntKind.i64.wrap (adF m f 0 (t.args.take k)*m.size+aby m f s)=adF m f 0 (t.args.take (k+1)):=by
      rw[IntWalk.i64_in _ (by omega)];omega
     have hbw:b<wr.heap.size:=by omega
     clear hs hsm HST HST' hsa hrs har hp0 hp1 hm1 hv0 hv1;have ft0:=fun d os=>cell_regrown t0 d os;have ft1:=fun d os=>cell_regrown t1 d os;have fi0:=fun d os=>cell_regrown i0 d os;have fi1:=fun d os=>cell_regrown i1 d os;have fc0:=fun d os=>cell_regrown hc0 d os;have fc1:=fun d os=>cell_regrown hc1 d os;generalize adF m f 0 (t.args.take k)=A at hw1 hw2 ⊢;generalize hA1:adF m f 0 (t.args.take (k+1))=A1 at hw2;have HA1:=ae hA1;generalize aby m f s=V at CV hw2;clear hA1;go_wp2;refine aa2 (by kernel_rfl) (by kernel_rfl) ?_
     repeat (first
      |(refine WQ.skip (by rfl) ?_;simp only[Act.put,List.setIfInBounds_toArray,List.set_cons_succ,List.set_cons_zero])
      |(apply WQ.two (by rfl);(intro w' hw';obtain⟨pq,rfl⟩:=hw';go_simp;first|(with_reducible exact Calls.regrown_of (CV.out _ (below_regrown _ _ _)))|exact rfl);simp only[Act.put,List.setIfInBounds_toArray,List.set_cons_succ,List.set_cons_zero]))
     refine WQ.nil ?_;intro _ hw';obtain⟨⟨dq,osq⟩,hw''⟩:=hw';subst hw'';go_wp2
     go_roundw
     case rel=>exact⟨k+1,by omega,by go_num,by rw[HA1.out],HB.out.trans ((below_regrown wr dq osq).mono hbz)⟩
     case measure=>simp[intOf];omega
    ·obtain rfl:k=t.args.length:=by omega
     obtain⟨rb,ro,r,ra,rc,rfl,hrb,hrr,hrc,hri⟩:=hrs.elem hrow;have hin:=HEN.out r hrr;obtain⟨vb,vo,z,rfl,hvb,hzz,hcz⟩:=hri.elem hin;have hp0:=HPR.out t.args.length (af _);rw[List.take_length] at hp0;have HE:=ae (show aby m f t=z from by rw[HVE.out,List.getD_eq_getElem?_getD (l:=m.rows),hrr];show r.getD _ 0=z;rw[List.getD_eq_getElem?_getD,hzz];rfl);have hh0:0<=t.head:=by omega
     have hh1:t.head<(m.rows.length:Int):=by omega
     rw[List.take_length];generalize adF m f 0 t.args=A at hp0 hin hcz ⊢;have hA1:A<(r.length:Int):=by omega
     obtain⟨hA0,_⟩:=hp0;clear hrr hzz hri hrs har HVE;go_wp2;go_ret;exact⟨by rw[HE.out];rfl,by rw[HB0.out];exact HQ.out⟩
theorem akW(g:Sg)(m:Ip)(hm:abg g m=true)(f:List Int)(hf:∀z∈f,0<=z/\z<m.size)(x:LV)(hl:OkV g x.l)(hr:OkV g x.r)(aM:Nat)(ma:Option Addr)(mc:Nat)(fa:Option Addr)(fc:Nat)(w:World)(hn:aM<=w.heap.size)(hM:agB aM w m.rows ma mc)(hF:acP aM w f fa fc)(hX:aa1 aM w x):
 Calls Tryz.prog 79 #[ipV m ma mc,.slice fa f.length fc,x.v] w fun e w'=>e= .returned (.bool (agC m f x.n x.l x.r))/\Below w.heap.size w w':=by
 have d0:=(((((aai.below (ag _ w)).and (abT (hX.mono hn))).and (afJ (hF.mono hn))).and (adb (hM.mono hn))).pushI (ag _ _) m ma mc).pushL (ag _ _) x;simp only[aah] at d0;have D:=ae d0;have CL:=ae (fun(W:World) (hM:agB W.heap.size W m.rows ma mc) (hF:acP W.heap.size W f fa fc) (hX:aa1 W.heap.size W x)=>adX g m hm f hf x.l.size x.l (af _) hl W.heap.size ma mc fa fc x.pa x.ca W (af _) hM hF hX.lw hX.la);have CR:=ae (fun(W:World) (hM:agB W.heap.size W m.rows ma mc) (hF:acP W.heap.size W f fa fc) (hX:aa1 W.heap.size W x)=>adX g m hm f hf x.r.size x.r (af _) hr W.heap.size ma mc fa fc x.pb x.cb W (af _) hM hF hX.rw hX.ra);have HLB:=ae (show agC m f x.n x.l x.r=((aby m f x.l==aby m f x.r) != x.n) from by unfold agC;congr 1);clear d0 hM hF hX hf;go_enter Tryz.func79,Tryz.ntmps79;go_wp2;generalize (w.alloc (ipO m ma mc)).alloc x.obj=w1 at D ⊢;generalize hb0:w.heap.size=b0 at D ⊢;have HB0:=ae hb0;clear hb0;have C1:=ae (fun(W:World) (hW:Below w1.heap.size w1 W)=>CL.out W (D.out.mv hW).now.2.2.1 (D.out.mv hW).now.2.2.2.1 (D.out.mv hW).now.2.2.2.2.1);have C2:=ae (fun(W:World) (hW:Below w1.heap.size w1 W)=>CR.out W (D.out.mv hW).now.2.2.1 (D.out.mv hW).now.2.2.2.1 (D.out.mv hW).now.2.2.2.2.1);have HQ:=ae D.out.now.2.2.2.2.2;obtain⟨⟨x0,x1,x2,x3,x4⟩,⟨i0,i1⟩,_⟩:=D.out.now;clear D CL CR;generalize aby m f x.l=V1 at C1 HLB;generalize aby m f x.r=V2 at C2 HLB;have f0:=fun d os=>cell_regrown x0 d os;have f1:=fun d os=>cell_regrown x1 d os;have f2:=fun d os=>cell_regrown x2 d os;have f3:=fun d os=>cell_regrown x3 d os;have f4:=fun d os=>cell_regrown x4 d os;have g0:=fun d os=>cell_regrown i0 d os;have g1:=fun d os=>cell_regrown i1 d os;refine aa2 (by kernel_rfl) (by kernel_rfl) ?_
 repeat (first
  |(refine WQ.skip (by rfl) ?_;simp only[Act.put,List.setIfInBounds_toArray,List.set_cons_succ,List.set_cons_zero])
  |(apply WQ.two (by rfl);(intro w' hw';obtain⟨pq,rfl⟩:=hw';go_simp;first|(with_reducible exact Calls.regrown_of (C1.out _ (below_regrown _ _ _)))|(with_reducible exact Calls.regrown_of (C2.out _ (below_regrown _ _ _)))|exact rfl);simp only[Act.put,List.setIfInBounds_toArray,List.set_cons_succ,List.set_cons_zero]))
 refine WQ.nil ?_;intro _ hw';obtain⟨⟨dq,osq⟩,hw''⟩:=hw';subst hw'';go_wp2;go_ret;exact⟨by rw[HLB.out];rfl,by rw[HB0.out];exact HQ.out.trans ((below_regrown w1 dq osq).mono (by have:=HQ.out.size;have:=HB0.out;omega))⟩
end Go.Proofs.YtabfapijgfjflaaGreat
