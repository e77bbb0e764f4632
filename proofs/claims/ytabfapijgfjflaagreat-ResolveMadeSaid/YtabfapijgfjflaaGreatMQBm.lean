import Derived.Test.YtabfapijgfjflaaGreatMQBl
import Derived.Test.YtabfapijgfjflaaGreatMQBh
import Derived.Test.YtabfapijgfjflaaGreatMQBd
import Derived.Test.YtabfapijgfjflaaGreatMQBc
import Derived.Shelf.Abstract
import Derived.Test.YtabfapijgfjflaaGreatMQBk
import Derived.Test.YtabfapijgfjflaaGreatMQBa
import Derived.Maps.OwnSet
import Derived.Test.YtabfapijgfjflaaGreatMAl
set_option linter.unusedVariables false
set_option linter.unusedSimpArgs false
set_option maxRecDepth 100000
set_option maxHeartbeats 4000000
namespace Go.Proofs.YtabfapijgfjflaaGreat
open Go.RowKit
theorem aku{w:World}{g:Nat}{cur:Array Value}{ty:TypeId}{fr:Nat×Nat}(hb:w.heap[g]? =some (.cells cur ty fr)){os:List Value}(hc:∀j u,os[j]? =some u->w.cell? ⟨g,0+j,none⟩=some u):∃sp,cur.toList=os++sp:=by
 refine⟨cur.toList.drop os.length,?_⟩;apply List.ext_getElem?;intro i;by_cases hi:i<os.length
 ·rw[List.getElem?_append_left hi,ai hi];have h:=hc i _ (ai hi);rw[Nat.zero_add] at h;simpa[World.cell?,hb] using h
 ·rw[List.getElem?_append_right (by omega),List.getElem?_drop]
  congr 1
  omega
theorem abj{w:World}{g:Nat}{cur:Array Value}{ty:TypeId}{fr:Nat×Nat}(hb:w.heap[g]? =some (.cells cur ty fr)){l:List Value}(hl:cur.toList=l){j:Nat}{u:Value}(hu:l[j]? =some u):w.cell? ⟨g,j,none⟩=some u:=by
 subst hl;simpa[World.cell?,hb] using hu
structure RbI (aM:Nat) (ts xs:List T) (w w3:World) (g c2:Nat) (k:Nat) (vs os sp:List Value) (cur:Array Value) (wr:World):Prop where
 blk:wr.heap[g]? =some (.cells cur 60 (0,0))
 cells:cur.toList=vs++(os++sp)
 new:aal (fun b=>w.heap.size+2<=b/\b<wr.heap.size/\b≠g) wr (xs.take k) vs
 old:aal (· <aM) wr (ts.drop k) os
 below:Below (w.heap.size+2) w3 wr
def RbX(aM:Nat)(ts xs:List T)(w w3:World)(g c2:Nat)(i:Value)(wr:World):Prop:=∃(k:Nat) (vs os sp:List Value) (cur:Array Value),k<=ts.length/\i= .int .i64 k/\RbI aM ts xs w w3 g c2 k vs os sp cur wr
theorem at5{aM:Nat}{ts xs:List T}{w w3 wr w5:World}{g c2 k:Nat}{h0 s0:Value}{vs os sp:List Value}{cur:Array Value}{x t:T}{a:Option Addr}{c:Nat}{ob:Obj}(hn:aM<=w.heap.size)(hg:w.heap.size+2<=g)(I:RbI aM ts xs w w3 g c2 k vs (h0::s0::os) sp cur wr)(hk:ts[k]? =some t)(hx:xs[k]? =some x)(hz:w.heap.size+2<=wr.heap.size)(hxw:(Lit.int .i64 x.head).wf=true)
 (hb5:Below (wr.alloc ob).heap.size (wr.alloc ob) w5) (hA:aaj (fun b=>(wr.alloc ob).heap.size<=b/\b<w5.heap.size) w5 x.args a c):
 ∃cur',RbI aM ts xs w w3 g c2 (k+1) (vs++[.int .i64 x.head,.slice a x.args.length c]) os sp cur' ((w5.setCell ⟨g,k*2,none⟩ (.int .i64 x.head)).setCell ⟨g,k*2+1,none⟩ (.slice a x.args.length c)):=by
 obtain⟨i1,i2,i3,i4,i5⟩:=I;have hgl:g<wr.heap.size:=(aj.1 i1).1;have hkx:=(ah.1 hx).1;have hlen:=i3.length;rw[List.length_take,Nat.min_eq_left (by omega)] at hlen;have hb5':Below wr.heap.size wr w5:=((ag _ wr).alloc (af _) _).trans (hb5.mono (by simp));have hz5:=hb5.size;rw[aah] at hz5;have h5:w5.heap[g]? =some (.cells cur 60 (0,0)):=(hb5'.block g hgl).trans i1;have hoth:∀b,b≠g->((w5.setCell ⟨g,k*2,none⟩ (.int .i64 x.head)).setCell ⟨g,k*2+1,none⟩ (.slice a x.args.length c)).heap[b]? =w5.heap[b]? :=fun b hb=>(an _ _ _ _ hb).trans (an _ _ _ _ hb);refine⟨(cur.setIfInBounds (k*2) (.int .i64 x.head)).setIfInBounds (k*2+1) (.slice a x.args.length c),?_,?_,?_,?_,?_⟩
 ·rw[heap_setCell_same (heap_setCell_same h5 _)]
 ·rw[Array.toList_setIfInBounds,Array.toList_setIfInBounds,i2];rw[List.set_append_right _ _ (by omega),show k*2-vs.length=0 from by omega];simp only[List.cons_append,List.set_cons_zero];rw[List.set_append_right _ _ (by omega),show k*2+1-vs.length=1 from by omega];simp
 ·rw[aI hkx,(ah.1 hx).2]
  have e1:=hA.keep (ok':=fun b=>w.heap.size+2<=b/\b<((w5.setCell ⟨g,k*2,none⟩ (.int .i64 x.head)).setCell ⟨g,k*2+1,none⟩ (.slice a x.args.length c)).heap.size/\b≠g) (fun b hb=>hoth b (by have:=hb.1;rw[aah] at this;omega)) (fun b hb=>by
   have h1:=hb.1;have h2:=hb.2;rw[aah] at h1;exact⟨by omega,by simpa using h2,by omega⟩)
  have e2:=aal.keep (ok':=fun b=>w.heap.size+2<=b/\b<((w5.setCell ⟨g,k*2,none⟩ (.int .i64 x.head)).setCell ⟨g,k*2+1,none⟩ (.slice a x.args.length c)).heap.size/\b≠g) (fun b hb=>(hoth b hb.2.2).trans (hb5'.block b hb.2.1)) (fun b hb=>⟨hb.1,by have:=hb.2.1;simp;omega,hb.2.2⟩) i3;exact aal.snoc hxw e1 e2
 ·rw[aD (ah.1 hk).1] at i4;exact aal.keep (fun b hb=>(hoth b (by omega)).trans (hb5'.block b (by omega))) (fun b hb=>hb) i4.2.2.2
 ·exact((i5.trans (hb5'.mono (by omega))).setCell (p:=⟨g,k*2,none⟩) hg _).setCell (p:=⟨g,k*2+1,none⟩) hg _
theorem alM(gf:FuncId)(hcf:∀args W,(callFunc gf args).run Tryz.prog W= .ok (.enter gf args) W)(m:Value)(f:Int->T):∀(N:Nat) (t:T),t.size<=N->t.size<=1000000000000->bad (T.subs 1 t)=false->∀(aM:Nat) (a:Option Addr) (c:Nat) (w:World),aM<=w.heap.size->(Lit.int .i64 t.head).wf=true->aab aM w t.args a c->
 (∀W v,Below w.heap.size w W->0<=v->v<=255->Calls Tryz.prog gf #[m,.int .i64 v] W (ai9 (f v) W))->
 Calls Tryz.prog 200 #[tm t.head a t.args.length c,.func (.func gf) #[m] #[]] w (ai9 (t.sub f) w):=by
 intro N
 induction N with
 |zero=>intro t ht;have:=T.size_pos t;omega
 |succ N ih=>
  intro t ht hbig hgd aM a c w hn hwf hA hC;have IH:=ae ih;have HWF:=ae hwf;have HC:=ae hC;have HGD:=ae hgd;have hsz:=T.size_eq t;have hlz:=T.sizes_ge_length t.args;have hlc:t.args.length<=c/\c<=maxLen:=⟨hA.1,hA.2.1⟩;unfold maxLen at hlc;obtain⟨hl1,hl2⟩:=hlc;have HS:=ae hsz;have hlen:t.args.length<=1000000000000:=by omega
  have HA:=ae hA;have hok:=aaI hgd;obtain⟨hw1,hw2⟩:=ahI hwf;clear ih hwf hA hsz hlz hC hgd;obtain⟨w2,hw2'⟩:∃w2,(w.alloc (aaa t.head a t.args.length c)).alloc (aaa 0 none 0 0)=w2:=⟨_,rfl⟩;have hB2:Below w.heap.size w w2:=by rw[←hw2'];exact((ag _ w).alloc (af _) _).alloc (by simp) _
  have hs2:w2.heap.size=w.heap.size+2:=by rw[←hw2'];simp
  have L2:=ae (show ∀W,Below (w.heap.size+2) w2 W->W.cell? ⟨w.heap.size,0,none⟩=some (.int .i64 t.head)/\W.cell? ⟨w.heap.size,1,none⟩=some (.slice a t.args.length c)/\W.cell? ⟨w.heap.size+1,0,none⟩=some (.int .i64 0)/\W.cell? ⟨w.heap.size+1,1,none⟩=some (.slice none 0 0)/\W.frozen? ⟨w.heap.size+1,0,none⟩=false/\W.frozen? ⟨w.heap.size+1,1,none⟩=false from fun W hW=>
   ⟨(hW.cell (p:=⟨w.heap.size,0,none⟩) (by simp)).trans (by rw[←hw2'];simp[go_sem]),(hW.cell (p:=⟨w.heap.size,1,none⟩) (by simp)).trans (by rw[←hw2'];simp[go_sem]),(hW.cell (p:=⟨w.heap.size+1,0,none⟩) (by simp)).trans (by rw[←hw2'];simp[go_sem]),(hW.cell (p:=⟨w.heap.size+1,1,none⟩) (by simp)).trans (by rw[←hw2'];simp[go_sem]),(hW.frozen (p:=⟨w.heap.size+1,0,none⟩) (by simp)).trans (by rw[←hw2'];simp[go_sem]),(hW.frozen (p:=⟨w.heap.size+1,1,none⟩) (by simp)).trans (by rw[←hw2'];simp[go_sem])⟩)
  have HB2:=ae hB2;have HS2:=ae hs2;clear hB2 hs2;obtain⟨c0,c1,r0,r1,rf0,rf1⟩:=L2.out w2 (ag _ _);by_cases q:t.head<0
  ·have hv:0<= -1-t.head/\ -1-t.head<=255:=by
    simp only[okB,if_pos q,Bool.and_eq_true,decide_eq_true_iff] at hok;omega
   have hsub:=T.sub_neg (f:=f) q;have CC:=ae (HC.out w2 (-1-t.head) HB2.out hv.1 hv.2);go_enter Tryz.func200,Tryz.ntmps200
   go_wp2_with fail
   refine CC.out.mono ?_;rintro e w3 ⟨a3,c3,rfl,hw3,hI3,hb3⟩;clear c0 c1 r0 r1 rf0 rf1 hw2';obtain⟨c0,c1,r0,r1,rf0,rf1⟩:=L2.out w3 (by rw[←HS2.out];exact hb3);have HW3:=ae hw3;have HI3:=ae hI3;have HB3:=ae (HB2.out.trans (hb3.mono HB2.out.size));clear hw3 hI3 hb3;go_wp2;refine bodyPost_ret (v:=tm (f (-1-t.head)).head a3 (f (-1-t.head)).args.length c3) (by simp[results,Tryz.results200,go_sem,r0,r1]) rfl ?_;rw[hsub];refine⟨a3,c3,rfl,HW3.out,HI3.out.keep (fun b hb=> ?_) (fun b hb=>⟨by have:=hb.1;have:=HS2.out;omega,by simpa using hb.2⟩),(HB3.out.setCell (p:=⟨w.heap.size+1,0,none⟩) (by simp) _).setCell (p:=⟨w.heap.size+1,1,none⟩) (by simp) _⟩;have h:=hb.1;rw[HS2.out] at h;exact(an _ _ _ _ (by show b≠w.heap.size+1;omega)).trans (an _ _ _ _ (by show b≠w.heap.size+1;omega))
  ·have hsub:=T.sub_pos (f:=f) q;have HSUB:=ae hsub;have CL:=ae (agu t.args hlen aM a c w2 (by have:=HS2.out;omega) (HA.out.below (HB2.out.mono hn)));clear hsub hok;go_enter Tryz.func200,Tryz.ntmps200
   go_wp2_with fail
   refine CL.out.mono ?_;rintro e w3 ⟨a2,c2,rfl,⟨hn1,hn2,hnr⟩,hb3⟩;have hB3:Below (w.heap.size+2) w2 w3:=by rw[←HS2.out];exact hb3
   clear c0 c1 r0 r1 rf0 rf1 hw2';unfold maxLen at hn2
   rcases hnr with hnil|⟨g,cur,rfl,hg,hgb,hgs,hrow⟩
   ·have hl0:t.args.length=0:=by rw[hnil];rfl
    have HNIL:=ae hnil;obtain⟨c0,c1,r0,r1,rf0,rf1⟩:=L2.out w3 hB3;have HB3:=ae (HB2.out.trans (hb3.mono HB2.out.size));clear hnil hb3 hB3;rw[hl0];go_wp2
    go_loopw [21] (fun i wr=>i= .int .i64 0/\wr=w3) (fun _ _=>0)
    case atStart=>exact⟨rfl,rfl⟩
    case round=>
     obtain⟨rfl,rfl⟩:=hrel;go_wp2;refine bodyPost_ret (v:=tm t.head a2 0 c2) (by simp[results,Tryz.results200,go_sem,r0,r1]) rfl ?_;rw[HSUB.out,HNIL.out];exact⟨a2,c2,rfl,HWF.out,⟨by simp[T.args],by unfold maxLen;exact hn2,.inl rfl⟩,(HB3.out.setCell (p:=⟨w.heap.size+1,0,none⟩) (by simp) _).setCell (p:=⟨w.heap.size+1,1,none⟩) (by simp) _⟩
   ·obtain⟨os,hos,hoc,_⟩:=aeO t.args 0 ((aaF _).2 hrow);obtain⟨sp,hsp⟩:=aku hgb hoc;have hg2:w.heap.size+2<=g:=by have:=HS2.out;omega
    have HST:=ae (show RbX aM t.args (t.args.map (T.sub f)) w w3 g c2 (.int .i64 ((0:Nat):Int)) w3 from⟨0,[],os,sp,cur,Nat.zero_le _,rfl,hgb,hsp,trivial,hos,ag _ _⟩);have HB3:=ae hB3;have HS3:=ae (show w.heap.size+2<=w3.heap.size from by have:=hb3.size;have:=HS2.out;omega);clear hos hoc hsp hgb hrow hb3 hB3 CL hgs hg;go_wp2
    go_loopw [21] (fun i wr=>RbX aM t.args (t.args.map (T.sub f)) w w3 g c2 i wr) (fun i _=>t.args.length-(intOf i).toNat)
    case atStart=>exact HST.out
    case round=>
     obtain⟨k,vs,os,sp,cur,hk,rfl,hI⟩:=hrel;have HI:=ae hI;have hz:w.heap.size+2<=wr.heap.size:=by have:=hI.below.size;have:=HS3.out;omega
     have hBw:Below (w.heap.size+2) w2 wr:=HB3.out.trans hI.below;have hw:Below w.heap.size w wr:=HB2.out.trans (hBw.mono (by omega));have hvl:=hI.new.length;rw[List.length_take,List.length_map,Nat.min_eq_left hk] at hvl;have hgw:g<wr.heap.size:=(aj.1 hI.blk).1;by_cases hlt:k<t.args.length
     ·obtain⟨s,hs⟩:∃s,t.args[k]? =some s:=⟨_,ai hlt⟩;have hold:=hI.old;rw[aD hlt,(ah.1 hs).2] at hold
      obtain⟨os',a',c',rfl,hsw,hA'⟩:∃os' a' c',os= .int .i64 s.head:: .slice a' s.args.length c'::os'/\(Lit.int .i64 s.head).wf=true/\aab aM wr s.args a' c':=by
       match os,hold with
       |h0::s0::os',⟨q1,q2,⟨a',c',q3,q4⟩,_⟩=>exact⟨os',a',c',by rw[q2,q3],q1,aao.1 q4⟩
      have g0:wr.cell? ⟨g,k*2,none⟩=some (.int .i64 s.head):=abj hI.blk hI.cells (by rw[List.getElem?_append_right (by omega),show k*2-vs.length=0 from by omega];rfl);have g1:wr.cell? ⟨g,k*2+1,none⟩=some (.slice a' s.args.length c'):=abj hI.blk hI.cells (by rw[List.getElem?_append_right (by omega),show k*2+1-vs.length=1 from by omega];rfl);have f0:wr.frozen? ⟨g,k*2,none⟩=false:=by simp[World.frozen?,hI.blk]
      have f1:wr.frozen? ⟨g,k*2+1,none⟩=false:=by simp[World.frozen?,hI.blk]
      obtain⟨w4,hw4⟩:∃w4,wr.alloc (aaa s.head a' s.args.length c')=w4:=⟨_,rfl⟩;have hb4:Below wr.heap.size wr w4:=by rw[←hw4];exact(ag _ _).alloc (af _) _
      have hz4:w4.heap.size=wr.heap.size+1:=by rw[←hw4];simp
      have hsN:s.size<=N:=by have:=T.size_lt_of_mem hs;have:=HS.out;omega
      have hsb:s.size<=1000000000000:=by have:=T.size_lt_of_mem hs;have:=HS.out;omega
      have hw4':Below w.heap.size w w4:=hw.trans (hb4.mono (by omega));have CC:=ae (IH.out s hsN hsb (aaA HGD.out hs) aM a' c' w4 (by omega) hsw (hA'.below (hb4.mono (by omega))) (fun W v hW h0 h1=>HC.out W v (hw4'.trans (hW.mono hw4'.size)) h0 h1));have d0:w4.cell? ⟨wr.heap.size,0,none⟩=some (.int .i64 s.head):=by rw[←hw4];simp[go_sem]
      have d1:w4.cell? ⟨wr.heap.size,1,none⟩=some (.slice a' s.args.length c'):=by rw[←hw4];simp[go_sem]
      have G5:=ae (show ∀W,Below w4.heap.size w4 W->W.cell? ⟨g,k*2,none⟩=some (.int .i64 s.head)/\W.cell? ⟨g,k*2+1,none⟩=some (.slice a' s.args.length c')/\W.frozen? ⟨g,k*2,none⟩=false/\W.frozen? ⟨g,k*2+1,none⟩=false from fun W hW=>by
       have h:=hb4.trans (hW.mono hb4.size);exact⟨(h.cell (p:=⟨g,k*2,none⟩) hgw).trans g0,(h.cell (p:=⟨g,k*2+1,none⟩) hgw).trans g1,(h.frozen (p:=⟨g,k*2,none⟩) hgw).trans f0,(h.frozen (p:=⟨g,k*2+1,none⟩) hgw).trans f1⟩)
      have HSS:=ae hs;have HW4:=ae hw4;have HZ4:=ae hz4;have hk0:(0:Int)<=(k:Int):=aw _;have hk1:(k:Int)<(t.args.length:Int):=by omega
      clear hI hold hsw hA' hb4 hz4 hw4' hBw hw f0 f1 HST hs hvl
      go_wp2_with fail
      refine CC.out.mono ?_;rintro e w5 ⟨a5,c5,rfl,hw5,hI5,hb5⟩;clear g0 g1 d0 d1 hw4;obtain⟨g0,g1,f0,f1⟩:=G5.out w5 hb5;have HW5:=ae hw5;have HI5:=ae hI5;have HB5:=ae hb5;have hg5:g<w5.heap.size:=by have:=hb5.size;have:=HZ4.out;omega
      clear hw5 hI5 hb5;go_wp2
      go_roundw
      case rel=>
       have hx:(t.args.map (T.sub f))[k]? =some (s.sub f):=by rw[List.getElem?_map,HSS.out];rfl
       have hb5:=HB5.out;have hI5:=HI5.out;rw[←HW4.out] at hb5 hI5;obtain⟨cur',hI'⟩:=at5 (ob:=aaa s.head a' s.args.length c') hn hg2 HI.out HSS.out hx hz HW5.out hb5 hI5;exact⟨k+1,_,_,_,cur',by omega,by go_num,hI'⟩
      case measure=>simp[intOf];omega
     ·obtain rfl:k=t.args.length:=by omega
      obtain⟨c0,c1,r0,r1,rf0,rf1⟩:=L2.out wr hBw;have hnew:=hI.new;rw[←List.length_map (f:=T.sub f),List.take_length] at hnew
      have hrow:aav (fun b=>w.heap.size+2<=b/\b<wr.heap.size) wr (t.args.map (T.sub f)) g 0:=aal.isRowp (hnew.keep (fun _ _=>rfl) (fun b hb=>⟨hb.1,hb.2.1⟩)) (fun j u hj=>by
       rw[Nat.zero_add];exact abj hI.blk hI.cells (by rw[List.getElem?_append_left (ah.1 hj).1];exact hj))
      have HROW:=ae hrow;have HW:=ae hw;clear hI hBw hw hnew hrow hvl HST;go_wp2;refine bodyPost_ret (v:=tm t.head (some ⟨g,0,none⟩) t.args.length c2) (by simp[results,Tryz.results200,go_sem,r0,r1]) rfl ?_;rw[HSUB.out];have hA:aaj (fun b=>w.heap.size+2<=b/\b<wr.heap.size) wr (t.args.map (T.sub f)) (some ⟨g,0,none⟩) c2:=⟨by simpa using hn1,by unfold maxLen;exact hn2,.inr ⟨g,0,rfl,⟨hg2,hgw⟩,HROW.out⟩⟩;refine⟨some ⟨g,0,none⟩,c2,by simp[T.head,T.args],HWF.out,hA.keep (fun b hb=> ?_) (fun b hb=>⟨by have:=hb.1;omega,by simpa using hb.2⟩),(HW.out.setCell (p:=⟨w.heap.size+1,0,none⟩) (by simp) _).setCell (p:=⟨w.heap.size+1,1,none⟩) (by simp) _⟩;have h:=hb.1;exact(an _ _ _ _ (by show b≠w.heap.size+1;omega)).trans (an _ _ _ _ (by show b≠w.heap.size+1;omega))
open Go.Shelf
theorem alN(x:T)(hx:x.size<=1000000000000)(ok:Nat->Prop)(a:Option Addr)(c:Nat)(w:World)(hok:∀b,ok b->b<w.heap.size)(hwf:(Lit.int .i64 x.head).wf=true)(hA:aaj ok w x.args a c):
 Calls Tryz.prog 199 #[tm x.head a x.args.length c] w (at2 ok (amN x) x.check w):=by
 obtain⟨w2,hw2⟩:∃w2,(w.alloc (aaa x.head a x.args.length c)).alloc (aaa 0 none 0 0)=w2:=⟨_,rfl⟩;have hB2:Below w.heap.size w w2:=by rw[←hw2];exact((ag _ w).alloc (af _) _).alloc (by simp) _
 have hs2:w2.heap.size=w.heap.size+2:=by rw[←hw2];simp
 have L2:=ae (show ∀W,Below w2.heap.size w2 W->W.cell? ⟨w.heap.size,0,none⟩=some (.int .i64 x.head)/\W.cell? ⟨w.heap.size,1,none⟩=some (.slice a x.args.length c)/\W.cell? ⟨w.heap.size+1,0,none⟩=some (.int .i64 0)/\W.cell? ⟨w.heap.size+1,1,none⟩=some (.slice none 0 0)/\W.frozen? ⟨w.heap.size+1,0,none⟩=false/\W.frozen? ⟨w.heap.size+1,1,none⟩=false from fun W hW=>
  ⟨(hW.cell (p:=⟨w.heap.size,0,none⟩) (by simp;omega)).trans (by rw[←hw2];simp[go_sem]),(hW.cell (p:=⟨w.heap.size,1,none⟩) (by simp;omega)).trans (by rw[←hw2];simp[go_sem]),(hW.cell (p:=⟨w.heap.size+1,0,none⟩) (by simp;omega)).trans (by rw[←hw2];simp[go_sem]),(hW.cell (p:=⟨w.heap.size+1,1,none⟩) (by simp;omega)).trans (by rw[←hw2];simp[go_sem]),(hW.frozen (p:=⟨w.heap.size+1,0,none⟩) (by simp;omega)).trans (by rw[←hw2];simp[go_sem]),(hW.frozen (p:=⟨w.heap.size+1,1,none⟩) (by simp;omega)).trans (by rw[←hw2];simp[go_sem])⟩)
 have CC:=ae (aca x hx w.heap.size a c w2 (by omega) hwf ((hA.toArgs hok).below hB2));have HW:=ae hwf;have HA:=ae hA;have HB2:=ae hB2;clear hwf hA hB2 hs2;obtain⟨c0,c1,_,_,_,_⟩:=L2.out w2 (ag _ _);go_enter Tryz.func199,Tryz.ntmps199
 go_wp2_with fail
 refine CC.out.mono ?_;rintro e w3 ⟨rfl,hb3⟩;clear c0 c1 hw2;obtain⟨c0,c1,r0,r1,rf0,rf1⟩:=L2.out w3 hb3;have HB3:=ae (HB2.out.trans (hb3.mono HB2.out.size));have hz3:w.heap.size<=w3.heap.size:=HB3.out.size;clear hb3;have HE:=ae (show amN x=if x.check=0 then x else Z0 from rfl);by_cases q:x.check=0
 ·rw[q];have he:amN x=x:=by unfold amN;rw[if_pos q]
  go_wp2;refine bodyPost_ret (v:= .tuple #[tm x.head a x.args.length c,.int .i64 0]) (by simp[results,Tryz.results199,go_sem,r0,r1]) rfl ?_
  first|rw[he,q]|rw[he]|rw[q]|skip
  exact⟨a,c,rfl,HW.out,HA.out.keep (fun b hb=>((an _ _ _ _ (by have:=hok b hb;show b≠w.heap.size+1;omega)).trans (an _ _ _ _ (by have:=hok b hb;show b≠w.heap.size+1;omega))).trans (HB3.out.block b (hok b hb))) (fun b hb=>hb),(HB3.out.setCell (p:=⟨w.heap.size+1,0,none⟩) (by simp) _).setCell (p:=⟨w.heap.size+1,1,none⟩) (by simp) _⟩
 ·have he:amN x=Z0:=by unfold amN;rw[if_neg q]
  generalize hk:x.check=k at q he ⊢;have HK:=ae hk;clear hk;have hne:(k==0)=false:=by simpa using q
  go_wp2;refine bodyPost_ret (v:= .tuple #[tm 0 none 0 0,.int .i64 k]) (by simp[results,Tryz.results199,go_sem,r0,r1]) rfl ?_
  first|rw[he,HK.out]|rw[HK.out]|rw[he]|skip
  exact⟨none,0,rfl,at4,agJ _ _,(HB3.out.setCell (p:=⟨w.heap.size+1,0,none⟩) (by simp) _).setCell (p:=⟨w.heap.size+1,1,none⟩) (by simp) _⟩
end Go.Proofs.YtabfapijgfjflaaGreat
namespace Go.Proofs.YtabfapijgfjflaaGreat
open Go.RowKit
theorem avt{v:Int}(h1: -9223372036854775808<=v)(h2:v<=9223372036854775807):(Lit.int .i64 (vt v).head).wf=true:=
 WalkArith.wf_i64 ⟨by show-9223372036854775808<= -1-v;omega,by show-1-v<=9223372036854775807;omega⟩
theorem aja(v:Int)(w:World)(h1: -9223372036854775808<=v)(h2:v<=9223372036854775807):
 Calls Tryz.prog 224 #[.int .i64 v] w fun e w'=>e= .returned (tm (-1-v) none 0 0)/\Below w.heap.size w w':=by
 go_enter Tryz.func224,Tryz.ntmps224;go_wp2;exact bodyPost_ret (v:=tm (-1-v) none 0 0) (by simp[results,Tryz.results224,go_sem]) rfl ⟨rfl,((ag _ _).alloc (af _) _)⟩
theorem anS(h:Int)(a:Option Addr)(k c:Nat)(v:Int)(w:World)(h1: -9223372036854775808<=v)(h2:v<=9223372036854775807):
 Calls Tryz.prog 223 #[tm h a k c,.int .i64 v] w fun e w'=>e= .returned (.bool (decide (h= -1-v)))/\Below w.heap.size w w':=by
 have hb:=(ag w.heap.size w).alloc (af _) (aaa h a k c);have HB:=ae hb;clear hb;go_enter Tryz.func223,Tryz.ntmps223;go_wp2;go_ret;refine⟨?_,HB.out⟩
 congr 2
def CkI(s:Sb)(w:World)(l i:Value)(wr:World):Prop:=∃(k:Nat) (z:Int),k<=s.length/\i= .int .i64 k/\l= .int .i64 z/\0<=z/\z<=256/\abX 0 s=abX z (s.drop k)/\Below w.heap.size w wr
def alO(s:Sb):Int:=if abX 0 s then 0 else 1
theorem anT(s:Sb)(hsz:∀x∈s,x.2.size<=1000000000000)(aM:Nat)(a:Option Addr)(c:Nat)(w:World)(hn:aM<=w.heap.size)(hS:ahj aM w s a c):
 Calls Tryz.prog 198 #[.slice a s.length c] w fun e w'=>e= .returned (.int .i64 (alO s))/\Below w.heap.size w w':=by
 have hl:s.length<=c/\c<=maxLen:=⟨hS.1,hS.2.1⟩;unfold maxLen at hl;obtain⟨hl1,hl2⟩:=hl;have HS:=ae hS;have HZ:=ae hsz;clear hS hsz;go_enter Tryz.func198,Tryz.ntmps198;go_wp2
 go_loopw [3,8] (fun l i wr=>CkI s w l i wr) (fun _ i _=>s.length-(intOf i).toNat)
 case atStart=>exact⟨0,0,Nat.zero_le _,rfl,rfl,by omega,by omega,rfl,ag _ _⟩
 case round=>
  obtain⟨k,z,hk,rfl,rfl,hz0,hz1,hrt,hB⟩:=hrel;have HR:=ae hrt;have HB:=ae hB;have hbz:=hB.size;clear hrt hB;by_cases hlt:k<s.length
  ·obtain⟨b,o,x,t,a',c',rfl,hbn,hsk,hxw,htw,hc0,hc1,hc2,hA'⟩:=(HS.out.below (HB.out.mono hn)).elem (i:=k) hlt;have hk0:(0:Int)<=(k:Int):=aw _;have hk1:(k:Int)<(s.length:Int):=by omega
   have HSK:=ae (alw (l:=z) hsk);have hts:t.size<=1000000000000:=HZ.out (x,t) (ak hsk);have HTW:=ae htw;obtain⟨hx1,hx2⟩:=ahI hxw;have hbw:b<wr.heap.size:=by omega
   obtain⟨w2,hw2⟩:∃w2,wr.alloc (.cells #[.int .i64 x,.int .i64 t.head,.slice a' t.args.length c'] 107)=w2:=⟨_,rfl⟩;have hb2:Below wr.heap.size wr w2:=by rw[←hw2];exact(ag _ _).alloc (af _) _
   have L2:=ae (show ∀W,Below w2.heap.size w2 W->W.cell? ⟨wr.heap.size,0,none⟩=some (.int .i64 x)/\W.cell? ⟨wr.heap.size,1,none⟩=some (.int .i64 t.head)/\W.cell? ⟨wr.heap.size,2,none⟩=some (.slice a' t.args.length c') from fun W hW=>
    ⟨(hW.cell (p:=⟨wr.heap.size,0,none⟩) (by rw[←hw2];simp)).trans (by rw[←hw2];simp[go_sem]),(hW.cell (p:=⟨wr.heap.size,1,none⟩) (by rw[←hw2];simp)).trans (by rw[←hw2];simp[go_sem]),(hW.cell (p:=⟨wr.heap.size,2,none⟩) (by rw[←hw2];simp)).trans (by rw[←hw2];simp[go_sem])⟩)
   have HB2:=ae (HB.out.trans (hb2.mono hbz));have hAw:=hA'.below (hb2.mono (by omega));have HA':=ae (show aab w2.heap.size w2 t.args a' c' from hAw.mono (by have:=hb2.size;omega));clear hsk htw hxw hA' hAw hb2;by_cases q1:x<z
   ·have hd:alO s=1:=by unfold alO;rw[HR.out,HSK.out,decide_eq_false (show ¬z<=x from by omega)];simp
    have HF:=ae (show ∀o,Below w.heap.size w (wr.alloc o) from fun o=>HB.out.alloc hbz _);clear hw2 L2;go_wp2;go_ret;exact⟨by first|(rw[hd];rfl)|rfl,HF.out _⟩
   by_cases q2:255<x
   ·have hd:alO s=1:=by unfold alO;rw[HR.out,HSK.out,decide_eq_false (show ¬x<=255 from by omega)];simp
    have HF:=ae (show ∀o,Below w.heap.size w (wr.alloc o) from fun o=>HB.out.alloc hbz _);clear hw2 L2;go_wp2;go_ret;exact⟨by first|(rw[hd];rfl)|rfl,HF.out _⟩
   obtain⟨d0,d1,d2⟩:=L2.out w2 (ag _ _)
   go_wp2_with fail
   clear hw2 hc0 hc1 hc2 d0 d1 d2;refine(aca t hts w2.heap.size a' c' w2 (af _) HTW.out HA'.out).mono ?_;rintro e w3 ⟨rfl,hb3⟩;have HB3:=ae (HB2.out.trans (hb3.mono HB2.out.size));obtain⟨d0,d1,d2⟩:=L2.out w3 hb3;by_cases q3:t.check=0
   ·rw[q3]
    go_wp2_with fail
    clear d0 d1 d2;refine(anS t.head a' t.args.length c' x w3 hx1 hx2).mono ?_;rintro e w4 ⟨rfl,hb4⟩;have HB4:=ae (HB3.out.trans (hb4.mono HB3.out.size));obtain⟨d0,d1,d2⟩:=L2.out w4 (hb3.trans (hb4.mono hb3.size));clear hb3 hb4;by_cases q4:t.head= -1-x
    ·have hd:alO s=1:=by unfold alO;rw[HR.out,HSK.out,decide_eq_false (show ¬t.head≠ -1-x from fun h=>h q4)];simp
     rw[decide_eq_true q4];go_wp2;go_ret;exact⟨by first|(rw[hd];rfl)|rfl,HB4.out⟩
    ·rw[decide_eq_false q4];go_wp2
     go_roundw
     case rel=>
      refine⟨k+1,x+1,by omega,by go_num,rfl,by omega,by omega,?_,HB4.out⟩;rw[HR.out,HSK.out,decide_eq_true (show z<=x from by omega),decide_eq_true (show x<=255 from by omega),decide_eq_true q3,decide_eq_true (show t.head≠ -1-x from q4)];simp
     case measure=>simp[intOf];omega
   ·have hd:alO s=1:=by unfold alO;rw[HR.out,HSK.out,decide_eq_false q3];simp
    have hne:(t.check==0)=false:=by simpa using q3
    clear hb3;go_wp2;go_ret;exact⟨by first|(rw[hd];rfl)|rfl,HB3.out⟩
  ·have hd:alO s=0:=by unfold alO;rw[HR.out,List.drop_of_length_le (by omega)];rfl
   go_wp2;go_ret;exact⟨by first|(rw[hd];rfl)|rfl,HB.out⟩
open Go.Maps
theorem amO(w:World):(zeroValue 60).run Tryz.prog w= .ok (tm 0 none 0 0) w:=by kernel_rfl
theorem ajb(n:Int)(w:World):(Instr.makeMap 236 (some (.int .i64 n))).run Tryz.prog w= .ok (.map (some w.heap.size)) (w.alloc (.map #[] 0)):=by
 simp[Instr.makeMap,run_underlying Tryz.underlying236,asInt,asIntOf,Result.andThen]
def bnd(s:Sb)(v:Int):Bool:=s.any (fun p=>decide (p.1=v))
theorem amP(s:Sb)(x:Int)(t:T)(v:Int):bnd (s++[(x,t)]) v=(bnd s v||decide (x=v)):=by simp[bnd]
theorem aax{s:Sb}{v:Int}(h:bnd s v=false):ofS s v=vt v:=by
 induction s with
 |nil=>rfl
 |cons p s ih=>
  obtain⟨x,t⟩:=p;simp only[bnd,List.any_cons,Bool.or_eq_false_iff,decide_eq_false_iff_not] at h;rw[ofS,if_neg h.1];exact ih h.2
theorem arN(s:Sb)(x:Int)(t:T)(v:Int):ofS (s++[(x,t)]) v=if bnd s v then ofS s v else if x=v then t else vt v:=by
 induction s with
 |nil=>simp[bnd,ofS]
 |cons p s ih=>
  obtain⟨y,u⟩:=p;simp only[List.cons_append,ofS,bnd,List.any_cons];by_cases h:y=v
  ·simp[h]
  ·simp only[if_neg h,decide_eq_false h,Bool.false_or];exact ih
theorem ah6{s:Sb}:∀{l:Int},abX l s=true->∀{i:Nat} {x:Int×T},s[i]? =some x->l<=x.1/\x.1<=255/\x.2.check=0/\x.2.head≠ -1-x.1:=by
 induction s with
 |nil=>intro l _ i x hx;simp at hx
 |cons p s ih=>
  intro l h i x hx;obtain⟨y,u⟩:=p;simp only[abX,Bool.and_eq_true,decide_eq_true_iff] at h;cases i with
  |zero=>simp at hx;subst hx;exact⟨h.1.1.1.1,h.1.1.1.2,h.1.1.2,h.1.2⟩
  |succ i=>
   have h2:=ih h.2 (i:=i) (x:=x) (by simpa using hx);exact⟨by have:=h.1.1.1.1;omega,h2.2⟩
theorem apn{s:Sb}:∀{l:Int},abX l s=true->∀{i j:Nat} {x y:Int×T},i<j->s[i]? =some x->s[j]? =some y->x.1<y.1:=by
 induction s with
 |nil=>intro l _ i j x y _ hx;simp at hx
 |cons p s ih=>
  intro l h i j x y hij hx hy;obtain⟨z,u⟩:=p;simp only[abX,Bool.and_eq_true,decide_eq_true_iff] at h;cases j with
  |zero=>omega
  |succ j=>
   have hy':s[j]? =some y:=by simpa using hy
   cases i with
   |zero=>
    simp at hx;subst hx
    have:=(ah6 h.2 hy').1;show z<y.1;omega
   |succ i=>exact ih h.2 (i:=i) (j:=j) (by omega) (by simpa using hx) hy'
theorem akv{s:Sb}{l:Int}(h:abX l s=true){k:Nat}{x:Int}{t:T}(hk:s[k]? =some (x,t)):bnd (s.take k) x=false:=by
 simp only[bnd,List.any_eq_false,decide_eq_true_eq];intro p hp e;obtain⟨i,hi⟩:=au hp
 have hik:i<k:=by
  have:=(ah.1 hi).1;simp at this;omega
 rw[List.getElem?_take,if_pos hik] at hi;have:=apn h hik hi hk;simp at this;omega
def as7(aM:Nat)(W:World)(B:Nat)(s:Sb):Prop:=
 ∃D:DataW Value,W.ownsMap Tryz.prog 3 acq B s.length D/\(∀v,bnd s v=false->Maps.has D (.int .i64 v)=false)/\
  (∀v,bnd s v=true->Maps.has D (.int .i64 v)=true/\(Lit.int .i64 (ofS s v).head).wf=true/\∃a c,(∀z,D.atKey (.int .i64 v) z= .held (tm (ofS s v).head a (ofS s v).args.length c))/\aab aM W (ofS s v).args a c)
theorem ajc{W W':World}{k:TypeId}{R:Value->Option (DataW Value×List MemPlace)}{B n:Nat}{D:DataW Value}(h:W.ownsMap Tryz.prog k R B n D)(hb:Below W.heap.size W W'):W'.ownsMap Tryz.prog k R B n D:=
 h.kept (row:=none) ⟨hb.os,hb.tape,hb.output,hb.size,fun k hk _=>hb.block k hk⟩ (by simp)
theorem as7.below{aM:Nat}{W W':World}{B:Nat}{s:Sb}(h:as7 aM W B s)(hn:aM<=W.heap.size)(hb:Below W.heap.size W W'):as7 aM W' B s:=by
 obtain⟨D,h1,h2,h3⟩:=h;refine⟨D,ajc h1 hb,h2,fun v hv=> ?_⟩;obtain⟨q1,q2,a,c,q3,q4⟩:=h3 v hv;exact⟨q1,q2,a,c,q3,q4.below (hb.mono hn)⟩
theorem arO{aM:Nat}{W w1:World}{B:Nat}{s:Sb}{D:DataW Value}{x:Int}{t:T}{a:Option Addr}{c:Nat}(hfr:bnd s x=false)(hD:W.ownsMap Tryz.prog 3 acq B s.length D)(h2:∀v,bnd s v=false->Maps.has D (.int .i64 v)=false)
 (h3:∀v,bnd s v=true->Maps.has D (.int .i64 v)=true/\(Lit.int .i64 (ofS s v).head).wf=true/\∃a c,(∀z,D.atKey (.int .i64 v) z= .held (tm (ofS s v).head a (ofS s v).args.length c))/\aab aM W (ofS s v).args a c)
 (h1:w1.ownsMap Tryz.prog 3 acq B (s.length+1) (D.put (.int .i64 x) (.held (tm t.head a t.args.length c)))) (htw:(Lit.int .i64 t.head).wf=true) (hA:aab aM w1 t.args a c) (hb:Below aM W w1):as7 aM w1 B (s++[(x,t)]):=by
 have hM:=hD.isMap;refine⟨_,by simpa using h1,fun v hv=> ?_,fun v hv=> ?_⟩
 ·rw[amP,Bool.or_eq_false_iff,decide_eq_false_iff_not] at hv;rw[Maps.has_put_other (by intro e;injection e with _ e;exact hv.2 e.symm)];exact h2 v hv.1
 ·rw[arN];by_cases e:x=v
  ·subst e;rw[hfr,if_neg (by simp),if_pos rfl];exact⟨Maps.has_put_same (k:= .int .i64 x) hM (show WideAt.IsKeyLit (.int .i64 x) from trivial) _,htw,a,c,fun z=>Maps.atKey_put_same (k:= .int .i64 x) hM (show WideAt.IsKeyLit (.int .i64 x) from trivial) _ z,hA⟩
  ·rw[amP,decide_eq_false e,Bool.or_false] at hv;rw[if_pos hv];obtain⟨q1,q2,a',c',q3,q4⟩:=h3 v hv;have hne:Lit.int .i64 v≠Lit.int .i64 x:=by intro e';injection e' with _ e';exact e e'.symm
   exact⟨by rw[Maps.has_put_other hne];exact q1,q2,a',c',fun z=>by rw[Maps.atKey_put_other hne];exact q3 z,q4.below hb⟩
def apo(aM:Nat)(s:Sb)(w:World)(e:Ending)(w':World):Prop:=∃B,e= .returned (.map (some B))/\as7 aM w' B s/\Below w.heap.size w w'
def aw5(aM:Nat)(s:Sb)(w:World)(i:Value)(wr:World):Prop:=∃k:Nat,k<=s.length/\i= .int .i64 k/\as7 aM wr w.heap.size (s.take k)/\Below w.heap.size w wr/\w.heap.size+1<=wr.heap.size
theorem alP(s:Sb)(hr:abX 0 s=true)(aM:Nat)(a:Option Addr)(c:Nat)(w:World)(hn:aM<=w.heap.size)(hS:ahj aM w s a c):
 Calls Tryz.prog 201 #[.slice a s.length c] w (apo aM s w):=by
 have hl:s.length<=c/\c<=maxLen:=⟨hS.1,hS.2.1⟩;unfold maxLen at hl;obtain⟨hl1,hl2⟩:=hl;have HS:=ae hS;have HR:=ae hr;have hmm:=ajb
 have HST:=ae (show aw5 aM s w (.int .i64 ((0:Nat):Int)) (w.alloc (.map #[] 0)) from
  ⟨0,Nat.zero_le _,rfl,⟨.map [],World.ownsMap_made w Tryz.prog 3 acq,fun v _=>rfl,fun v hv=>by simp[bnd] at hv⟩,(ag _ _).alloc (af _) _,by simp⟩)
 clear hS hr;go_enter Tryz.func201,Tryz.ntmps201;go_wp2
 go_loopw [11] (fun i wr=>aw5 aM s w i wr) (fun i _=>s.length-(intOf i).toNat)
 case atStart=>exact HST.out
 case round=>
  obtain⟨k,hk,rfl,hT,hB,hz⟩:=hrel;have HT:=ae hT;have HB:=ae hB;clear hT hB hmm HST;by_cases hlt:k<s.length
  ·obtain⟨b,o,x,t,a',c',rfl,hbn,hsk,hxw,htw,hc0,hc1,hc2,hA'⟩:=(HS.out.below (HB.out.mono hn)).elem (i:=k) hlt;have hk0:(0:Int)<=(k:Int):=aw _;have hk1:(k:Int)<(s.length:Int):=by omega
   have HSK:=ae hsk;have HTW:=ae htw;have HA':=ae hA';have hkey:=keyOf_int_mk (P:=Tryz.prog) (k:=3) Tryz.underlying3 hxw;have hbw:b<wr.heap.size:=by omega
   obtain⟨D,hD,h2,h3⟩:=HT.out;have htl:(s.take k).length=k:=by simp;omega
   have HD:=ae hD;have H2:=ae h2;have H3:=ae h3;have hDk:=hD;rw[htl] at hDk;clear hsk htw hxw hA' hD h2 h3
   go_wp2_with (first|(at_mapUpdate;refine wpList_mapUpdate_own _ (by rfl) _ _ _ 236 (by rfl) 3 60 ah5 Tryz.underlying236 acq w.heap.size k D (by rfl) (hDk.alloc _) (by unfold maxLen;omega) _ _ (.int .i64 x) (by rfl) (by rfl) hkey (.held (tm t.head a' t.args.length c')) [] (by rfl) ?_;intro w1 hown1 hgrow1)|go_in)
   go_roundw
   case rel=>
    have hb1:Below w.heap.size wr w1:=((ag w.heap.size wr).alloc (by omega) _).grown hgrow1 (by simp;omega) (fun k hk=>by cases hk;exact af _);refine⟨k+1,by omega,by go_num,?_,HB.out.trans hb1,by have:=hb1.size;omega⟩;obtain⟨hkl,hke⟩:=ah.1 HSK.out;rw[aI hkl,hke];exact arO (akv HR.out HSK.out) HD.out H2.out H3.out (by rw[htl];exact hown1) HTW.out (HA'.out.below (hb1.mono hn)) (hb1.mono hn)
   case measure=>simp[intOf];omega
  ·obtain rfl:k=s.length:=by omega
   have hT:=HT.out;rw[List.take_length] at hT;have HT':=ae hT;clear hT;go_wp2;go_ret;exact⟨_,rfl,HT'.out,HB.out⟩
section
variable {P:Program} {w:World} {ops:Array Oper} {rest:List Oper} {o:Oper} {a:Act} {Q:Exit->Act->World->Prop}
theorem agK(hg:o.guard=none)(m x:Operand)(t:TypeId)(hop:o.op=Op.lookup t m x true)
 (k e:TypeId) (K:Keyed P k) (ht:P.underlying t=some (.map k e)) {z:Value} (hz:(zeroValue e).run P w= .ok z w) (b n:Nat) (D:DataW Value)
 (hm:a.eval m= .map (some b)) (hown:w.ownsMap P k acq b n D) (key:Value) (kl:Lit) (hx:a.eval x=key) (hkey:keyOf P k key=some kl) (hhas:Maps.has D kl=true) (u:Value) (hat:∀z,D.atKey kl z= .held u)
 (hK:wpList P ops Q rest (a.put o.dst (.tuple #[u,.bool true])) w):wpList P ops Q (o::rest) a w:=by
 refine wpList_lookup_own_ok _ hg m x t hop k e K ht acq hz (.held z) [] rfl b n D hm hown key kl hx hkey fun v ps hv=> ?_;rw[hat] at hv;simp only[acq,aJ,Prod.mk.injEq,DataW.held.injEq] at hv;rw[hv.1,hhas];exact hK
theorem afG(hg:o.guard=none)(m x:Operand)(t:TypeId)(hop:o.op=Op.lookup t m x true)
 (k e:TypeId) (K:Keyed P k) (ht:P.underlying t=some (.map k e)) {z:Value} (hz:(zeroValue e).run P w= .ok z w) (b n:Nat) (D:DataW Value)
 (hm:a.eval m= .map (some b)) (hown:w.ownsMap P k acq b n D) (key:Value) (kl:Lit) (hx:a.eval x=key) (hkey:keyOf P k key=some kl) (hhas:Maps.has D kl=false)
 (hK:wpList P ops Q rest (a.put o.dst (.tuple #[z,.bool false])) w):wpList P ops Q (o::rest) a w:=by
 refine wpList_lookup_own_ok _ hg m x t hop k e K ht acq hz (.held z) [] rfl b n D hm hown key kl hx hkey fun v ps hv=> ?_;rw[Maps.atKey_of_not_has hhas] at hv;simp only[acq,aJ,Prod.mk.injEq,DataW.held.injEq] at hv;rw[hv.1,hhas];exact hK
end
theorem amQ{s:Sb}{n:Nat}(hn:1<=n)(h:∀x∈s,x.2.size<=n)(v:Int):(ofS s v).size<=n:=by
 induction s with
 |nil=>simp[ofS,vt,T.size,T.sizes];omega
 |cons p s ih=>
  obtain⟨x,t⟩:=p;rw[ofS];split
  ·exact h (x,t) (by simp)
  ·exact ih fun y hy=>h y (by simp[hy])
theorem anU(s:Sb)(hsz:∀x∈s,x.2.size<=1000000000000)(v:Int)(h1: -9223372036854775808<=v)(h2:v<=9223372036854775807)(aM B:Nat)(w:World)(hn:aM<=w.heap.size)(hT:as7 aM w B s):
 Calls Tryz.prog 202 #[.map (some B),.int .i64 v] w (ai9 (ofS s v) w):=by
 have hos:=amQ (n:=1000000000000) (by omega) hsz v;have hkey:=keyOf_int_mk (P:=Tryz.prog) (k:=3) Tryz.underlying3 (WalkArith.wf_i64 ⟨h1,h2⟩);obtain⟨D,hD,hno,hyes⟩:=hT;cases hb:bnd s v
 ·have hh:=hno v hb;have hof:=aax hb;have hD1:=hD.alloc (aaa 0 none 0 0);clear hno hyes hb hsz;go_enter Tryz.func202,Tryz.ntmps202
  go_wp2_with (first|(at_lookup;refine afG (by rfl) _ _ 236 (by rfl) 3 60 ah5 Tryz.underlying236 (amO _) B s.length D (by rfl) hD1 _ _ (by rfl) hkey hh ?_)|(go_at_call 224;refine(aja v _ h1 h2).mono ?_;rintro e w3 ⟨rfl,hb3⟩;have r0:=(hb3.cell (p:=⟨w.heap.size,0,none⟩) (by simp;omega)).trans (show _=some (Value.int .i64 0) from by simp[go_sem]);have r1:=(hb3.cell (p:=⟨w.heap.size,1,none⟩) (by simp;omega)).trans (show _=some (Value.slice none 0 0) from by simp[go_sem]);have r2:=(hb3.frozen (p:=⟨w.heap.size,0,none⟩) (by simp;omega)).trans (show _=false from by simp[go_sem]);have r3:=(hb3.frozen (p:=⟨w.heap.size,1,none⟩) (by simp;omega)).trans (show _=false from by simp[go_sem]))|go_in)
  have hbb:Below w.heap.size w w3:=(((ag _ w).alloc (af _) _).alloc (by simp) _).trans (hb3.mono (by simp;omega));refine bodyPost_ret (v:=tm (-1-v) none 0 0) (by simp[results,Tryz.results202,go_sem,r0,r1]) rfl ?_
  first|rw[hof]|skip
  exact⟨none,0,rfl,avt h1 h2,⟨by simp[vt,T.args],by simp[maxLen],.inl rfl⟩,(hbb.setCell (p:=⟨w.heap.size,0,none⟩) (by simp) _).setCell (p:=⟨w.heap.size,1,none⟩) (by simp) _⟩
 ·obtain⟨hh,hw,a,c,hat,hA⟩:=hyes v hb;generalize ofS s v=x at*;have hD1:=hD.alloc (aaa 0 none 0 0);have hB2:Below w.heap.size w ((w.alloc (aaa 0 none 0 0)).alloc (aaa x.head a x.args.length c)):=((ag _ w).alloc (af _) _).alloc (by simp) _;have CC:=ae (amM x hos aM a c ((w.alloc (aaa 0 none 0 0)).alloc (aaa x.head a x.args.length c)) (by simp;omega) hw (hA.below (hB2.mono hn)));have HB2:=ae hB2;have HW:=ae hw;clear hno hyes hb hsz hA hw hB2;go_enter Tryz.func202,Tryz.ntmps202
  go_wp2_with (first|(at_lookup;refine agK (by rfl) _ _ 236 (by rfl) 3 60 ah5 Tryz.underlying236 (amO _) B s.length D (by rfl) hD1 _ _ (by rfl) hkey hh (tm x.head a x.args.length c) hat ?_)|(go_at_call 101;refine CC.out.mono ?_;rintro e w3 ⟨a3,c3,rfl,hI3,hb3⟩;have r0:=(hb3.cell (p:=⟨w.heap.size,0,none⟩) (by simp;omega)).trans (show _=some (Value.int .i64 0) from by simp[go_sem]);have r1:=(hb3.cell (p:=⟨w.heap.size,1,none⟩) (by simp;omega)).trans (show _=some (Value.slice none 0 0) from by simp[go_sem]);have r2:=(hb3.frozen (p:=⟨w.heap.size,0,none⟩) (by simp;omega)).trans (show _=false from by simp[go_sem]);have r3:=(hb3.frozen (p:=⟨w.heap.size,1,none⟩) (by simp;omega)).trans (show _=false from by simp[go_sem]))|go_in)
  have hbb:Below w.heap.size w w3:=HB2.out.trans (hb3.mono HB2.out.size);refine bodyPost_ret (v:=tm x.head a3 x.args.length c3) (by simp[results,Tryz.results202,go_sem,r0,r1]) rfl ?_;refine⟨a3,c3,rfl,HW.out,hI3.keep (fun b hb=> ?_) (fun b hb=>⟨?_,?_⟩),(hbb.setCell (p:=⟨w.heap.size,0,none⟩) (by simp) _).setCell (p:=⟨w.heap.size,1,none⟩) (by simp) _⟩
  ·have h:=hb.1;simp at h;exact(an _ _ _ _ (by show b≠w.heap.size;omega)).trans (an _ _ _ _ (by show b≠w.heap.size;omega))
  ·have h:=hb.1;simp at h;omega
  ·simpa using hb.2.lt
end Go.Proofs.YtabfapijgfjflaaGreat
namespace Go.Proofs.YtabfapijgfjflaaGreat
open Go.RowKit Go.Shelf
theorem anV{s:Sb}(h:abX 0 s=true):∀x∈s,x.2.size<=400:=fun x hx=>by
 obtain⟨i,hi⟩:=au hx;exact(aam (ah6 h hi).2.2.1).1
theorem akw{s:Sb}(h:abX 0 s=true){t:T}(ht:t.size<=400):(t.sub (ofS s)).size<=160000:=
 aE (T.sub_size (n:=400) (by omega) (amQ (by omega) (anV h)) t) (by omega)
def agL(s:Sb)(t:T):Bool:=abX 0 s&&decide (t.check=0)
def abe(s:Sb)(t:T):T:=if agL s t then amN (t.sub (ofS s)) else Z0
def aeN(s:Sb)(t:T):Int:=if agL s t then(t.sub (ofS s)).check else 1
theorem anW:∀args W,(callFunc 202 args).run Tryz.prog W= .ok (.enter 202 args) W:=enters_of Tryz.func202 (by kernel_rfl) rfl
theorem adI(s:Sb)(hsz:∀x∈s,x.2.size<=1000000000000)(t:T)(ht:t.size<=1000000000000)(aM:Nat)(a:Option Addr)(c:Nat)(at_:Option Addr)(ct:Nat)(w:World)(hn:aM<=w.heap.size)(hS:ahj aM w s a c)(htw:(Lit.int .i64 t.head).wf=true)(hA:aab aM w t.args at_ ct):
 Calls Tryz.prog 166 #[.slice a s.length c,tm t.head at_ t.args.length ct] w (at3 aM (abe s t) (aeN s t) w):=by
 obtain⟨w2,hw2⟩:∃w2,(w.alloc (aaa t.head at_ t.args.length ct)).alloc (aaa 0 none 0 0)=w2:=⟨_,rfl⟩;have hB2:Below w.heap.size w w2:=by rw[←hw2];exact((ag _ w).alloc (af _) _).alloc (by simp) _
 have hs2:w2.heap.size=w.heap.size+2:=by rw[←hw2];simp
 have L2:=ae (show ∀W,Below w2.heap.size w2 W->W.cell? ⟨w.heap.size,0,none⟩=some (.int .i64 t.head)/\W.cell? ⟨w.heap.size,1,none⟩=some (.slice at_ t.args.length ct)/\W.cell? ⟨w.heap.size+1,0,none⟩=some (.int .i64 0)/\W.cell? ⟨w.heap.size+1,1,none⟩=some (.slice none 0 0)/\W.frozen? ⟨w.heap.size+1,0,none⟩=false/\W.frozen? ⟨w.heap.size+1,1,none⟩=false from fun W hW=>
  ⟨(hW.cell (p:=⟨w.heap.size,0,none⟩) (by simp;omega)).trans (by rw[←hw2];simp[go_sem]),(hW.cell (p:=⟨w.heap.size,1,none⟩) (by simp;omega)).trans (by rw[←hw2];simp[go_sem]),(hW.cell (p:=⟨w.heap.size+1,0,none⟩) (by simp;omega)).trans (by rw[←hw2];simp[go_sem]),(hW.cell (p:=⟨w.heap.size+1,1,none⟩) (by simp;omega)).trans (by rw[←hw2];simp[go_sem]),(hW.frozen (p:=⟨w.heap.size+1,0,none⟩) (by simp;omega)).trans (by rw[←hw2];simp[go_sem]),(hW.frozen (p:=⟨w.heap.size+1,1,none⟩) (by simp;omega)).trans (by rw[←hw2];simp[go_sem])⟩)
 have LS:=ae (show ∀W,Below w2.heap.size w2 W->ahj aM W s a c/\aab aM W t.args at_ ct/\Below w.heap.size w W/\aM<=W.heap.size from fun W hW=>by
  have h:=hB2.trans (hW.mono hB2.size);exact⟨hS.below (h.mono hn),hA.below (h.mono hn),h,aE hn h.size⟩)
 have HTW:=ae htw;have HSZ:=ae hsz;have HS2:=ae hs2;clear hS hA hB2 hs2 htw hsz;go_enter Tryz.func166,Tryz.ntmps166
 go_wp2_with fail
 have ls:=LS.out w2 (ag _ _);refine(anT s HSZ.out aM a c w2 ls.2.2.2 ls.1).mono ?_;clear ls hw2;rintro e w3 ⟨rfl,hb3⟩;by_cases q1:abX 0 s=true
 ·rw[show alO s=0 from by unfold alO;rw[if_pos q1]];obtain⟨c0,c1,_,_,_,_⟩:=L2.out w3 hb3;have HB3:=ae hb3;clear hb3
  go_wp2_with fail
  clear c0 c1;have ls:=LS.out w3 HB3.out;refine(aca t ht aM at_ ct w3 ls.2.2.2 HTW.out ls.2.1).mono ?_;clear ls;rintro e w4 ⟨rfl,hb4⟩;have hb4':=HB3.out.trans (hb4.mono HB3.out.size);clear hb4 HB3;have HB4:=ae hb4';by_cases q2:t.check=0
  ·rw[q2];have hga:agL s t=true:=by simp[agL,q1,q2]
   have hT:abe s t=amN (t.sub (ofS s)):=by unfold abe;rw[if_pos hga]
   have hE:aeN s t=(t.sub (ofS s)).check:=by unfold aeN;rw[if_pos hga]
   obtain⟨hts,_,htg⟩:=aam q2;have hxs:(t.sub (ofS s)).size<=1000000000000:=aE (akw q1 hts) (by omega);obtain⟨c0,c1,r0,r1,rf0,rf1⟩:=L2.out w4 hb4';have HF:=ae (LS.out w4 hb4').2.2.1;have KP:=ae (show ∀W,Below w4.heap.size w4 W->W.cell? ⟨w.heap.size,0,none⟩=some (.int .i64 t.head)/\W.cell? ⟨w.heap.size,1,none⟩=some (.slice at_ t.args.length ct)/\W.cell? ⟨w.heap.size+1,0,none⟩=some (.int .i64 0)/\W.cell? ⟨w.heap.size+1,1,none⟩=some (.slice none 0 0)/\W.frozen? ⟨w.heap.size+1,0,none⟩=false/\W.frozen? ⟨w.heap.size+1,1,none⟩=false from fun W hW=>L2.out W (HB4.out.trans (hW.mono HB4.out.size)))
   have CT:=ae (show ∀W,Below w4.heap.size w4 W->Calls Tryz.prog 201 #[.slice a s.length c] W (apo aM s W) from fun W hW=>by
    have ls:=LS.out W (HB4.out.trans (hW.mono HB4.out.size));exact alP s q1 aM a c W ls.2.2.2 ls.1)
   have CR:=ae (show ∀W B,Below w4.heap.size w4 W->as7 aM W B s->Calls Tryz.prog 200 #[tm t.head at_ t.args.length ct,.func (.func 202) #[.map (some B)] #[]] W (ai9 (t.sub (ofS s)) W) from fun W B hW hT=>by
    have ls:=LS.out W (HB4.out.trans (hW.mono HB4.out.size));exact alM _ anW (.map (some B)) (ofS s) t.size t (af _) ht htg aM at_ ct W ls.2.2.2 HTW.out ls.2.1 (fun X v hX h0 h1=>anU s HSZ.out v (by omega) (by omega) aM B X (aE ls.2.2.2 hX.size) (hT.below ls.2.2.2 hX)))
   generalize t.sub (ofS s)=x at hxs hT hE CR ⊢;clear hb4' hga hts htg;have hD4:Below w4.heap.size w4 w4.drew:=(ag _ _).drew;go_wp2
   go_region_law (first
    |(go_simp;go_at_call 201;refine(CT.out _ hD4).mono ?_;rintro e w5 ⟨B,rfl,hT5,hb5⟩;have hB5:Below w4.heap.size w4 w5:=⟨hb5.os,hb5.tape,hb5.output,hb5.size,hb5.block⟩;obtain⟨c5,c5',_,_,_,_⟩:=KP.out w5 hB5)
    |(go_simp;go_at_call 200;refine(CR.out _ B hB5 hT5).mono ?_;rintro e w6 ⟨a6,c6,rfl,hw6,hI6,hb6⟩;have hB6:Below w4.heap.size w4 w6:=hB5.trans (hb6.mono hB5.size))
    |(go_simp;go_at_call 199;refine(alN x hxs _ a6 c6 w6 (fun b h=>h.2) hw6 hI6).mono ?_;rintro e w7 ⟨a7,c7,rfl,hw7,hA7,hb7⟩;have hB7:Below w4.heap.size w4 w7:=hB6.trans (hb7.mono hB6.size);obtain⟨_,_,s0,s1,sf0,sf1⟩:=KP.out w7 hB7))
   all_goals
    go_wp2;refine bodyPost_ret (v:= .tuple #[tm (amN x).head a7 (amN x).args.length c7,.int .i64 x.check]) (by simp[results,Tryz.results166,go_sem,s0,s1]) rfl ?_
    first|rw[hT,hE]|skip
    have hw7':Below w.heap.size w w7:=HF.out.trans (hB7.mono HF.out.size);have hz7:w.heap.size+2<=w7.heap.size:=by have h1:=HB4.out.size;have h2:=hB7.size;have:=HS2.out;omega
    have hz5:w.heap.size+2<=w5.heap.size:=by have h1:=HB4.out.size;have h2:=hB5.size;have:=HS2.out;omega
    have hz67:=hb7.size;refine⟨a7,c7,rfl,hw7,(hA7.keep (ok':=fun b=>(b<aM\/w.heap.size<=b)/\b<((w7.setCell ⟨w.heap.size+1,0,none⟩ (.int .i64 (amN x).head)).setCell ⟨w.heap.size+1,1,none⟩ (.slice a7 (amN x).args.length c7)).heap.size) (fun b hb=>(an _ _ _ _ (by have:=hb.1;show b≠w.heap.size+1;omega)).trans (an _ _ _ _ (by have:=hb.1;show b≠w.heap.size+1;omega))) (fun b hb=>by have:=hb.1;have:=hb.2;simp;omega)),(hw7'.setCell (p:=⟨w.heap.size+1,0,none⟩) (by simp) _).setCell (p:=⟨w.heap.size+1,1,none⟩) (by simp) _⟩
  ·have hga:agL s t=false:=by simp[agL,q2]
   have hT:abe s t=Z0:=by unfold abe;rw[hga];rfl
   have hE:aeN s t=1:=by unfold aeN;rw[hga];rfl
   obtain⟨_,_,s0,s1,sf0,sf1⟩:=L2.out w4 hb4';have HF:=ae (LS.out w4 hb4').2.2.1;generalize hk:t.check=k at q2 ⊢;have hne:(k==0)=false:=by simpa using q2
   clear hb4' hk;go_wp2;refine bodyPost_ret (v:= .tuple #[tm 0 none 0 0,.int .i64 1]) (by simp[results,Tryz.results166,go_sem,s0,s1]) rfl ?_
   first|rw[hT,hE]|skip
   exact⟨none,0,rfl,at4,agJ _ _,(HF.out.setCell (p:=⟨w.heap.size+1,0,none⟩) (by simp) _).setCell (p:=⟨w.heap.size+1,1,none⟩) (by simp) _⟩
 ·have hga:agL s t=false:=by simp[agL,q1]
  have hT:abe s t=Z0:=by unfold abe;rw[hga];rfl
  have hE:aeN s t=1:=by unfold aeN;rw[hga];rfl
  rw[show alO s=1 from by unfold alO;rw[if_neg q1]];obtain⟨_,_,s0,s1,sf0,sf1⟩:=L2.out w3 hb3;have HF:=ae (LS.out w3 hb3).2.2.1;clear hb3;go_wp2;refine bodyPost_ret (v:= .tuple #[tm 0 none 0 0,.int .i64 1]) (by simp[results,Tryz.results166,go_sem,s0,s1]) rfl ?_
  first|rw[hT,hE]|skip
  exact⟨none,0,rfl,at4,agJ _ _,(HF.out.setCell (p:=⟨w.heap.size+1,0,none⟩) (by simp) _).setCell (p:=⟨w.heap.size+1,1,none⟩) (by simp) _⟩
end Go.Proofs.YtabfapijgfjflaaGreat
namespace Go.Proofs.YtabfapijgfjflaaGreat
open Go.RowKit
def apK(s:Sb)(x:LV):Int:=if aeN s x.l=0 then aeN s x.r else aeN s x.l
def apN(s:Sb)(x:LV):Bool:=if apK s x=0 then x.n else false
def apL(s:Sb)(x:LV):T:=if apK s x=0 then abe s x.l else .node 0 []
def apR(s:Sb)(x:LV):T:=if apK s x=0 then abe s x.r else .node 0 []
theorem as8{s:Sb}{x:LV}{k:Int}(h:apK s x=k)(hk:k≠0):apN s x=false/\apL s x= .node 0 []/\apR s x= .node 0 []/\apK s x=k:=by
 subst h;exact⟨by unfold apN;rw[if_neg hk],by unfold apL;rw[if_neg hk],by unfold apR;rw[if_neg hk],rfl⟩
theorem avu{s:Sb}{x:LV}(h:apK s x=0):apN s x=x.n/\apL s x=abe s x.l/\apR s x=abe s x.r/\apK s x=0:=
 ⟨by unfold apN;rw[if_pos h],by unfold apL;rw[if_pos h],by unfold apR;rw[if_pos h],h⟩
theorem agM(s:Sb)(t:T):(abe s t).size<=1000000000000:=by
 unfold abe;by_cases hg:agL s t=true
 ·rw[if_pos hg];have:=hg;simp only[agL,Bool.and_eq_true,decide_eq_true_eq] at this;have h1:=akw this.1 (aam this.2).1;unfold amN;by_cases hc:(t.sub (ofS s)).check=0
  ·rw[if_pos hc];omega
  ·rw[if_neg hc];simp[Z0,T.size,T.sizes]
 ·rw[if_neg hg];simp[Z0,T.size,T.sizes]
end Go.Proofs.YtabfapijgfjflaaGreat
