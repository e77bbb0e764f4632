import Derived.Test.YtabfapijgfjflaaGreatMQBz30
import Derived.Test.YtabfapijgfjflaaGreatMQBz29
import Derived.RangeFuncNested
import Derived.RangeFuncLeaves
import Derived.OwnWalkIn
import Derived.TacticsInMore
import Derived.Shelf.RegionOpen
import Derived.BigQuiet
import Derived.Deep.QuietTactic
import Derived.Lib.QuietBelow
import Derived.Test.YtabfapijgfjflaaGreatMQBu
import Derived.Test.YtabfapijgfjflaaGreatMQBk
import Derived.Test.YtabfapijgfjflaaGreatMQBd
import Derived.Test.YtabfapijgfjflaaGreatMQBp
import Derived.Test.YtabfapijgfjflaaGreatMQBb
import Derived.RegionTactic
import Derived.Orders
import Derived.Test.YtabfapijgfjflaaGreatMAl
set_option linter.unusedVariables false
set_option linter.unusedSimpArgs false
set_option maxRecDepth 100000
set_option maxHeartbeats 8000000
namespace Go.Proofs.YtabfapijgfjflaaGreat
open Go.RowKit
noncomputable def faA(g:Sg)(C:List Lt3)(i k p:Nat)(acc:List Gp×Nat)(u:Bool):List Gp×Nat:=(acc.1++(faS g C i k p (b2n u)).1.toList,acc.2+(faS g C i k p (b2n u)).2)
noncomputable def faB(g:Sg)(C:List Lt3)(i k:Nat)(acc:List Gp×Nat)(u:Bool):List Gp×Nat:=[false,true].foldl (faA g C i k (b2n u)) acc
theorem auQ(g:Sg)(C:List Lt3)(i k:Nat)(D:List Gp)(m:Nat):[false,true].foldl (faB g C i k) (D,m)=(D++(fa4 g C i k 4).1,m+(fa4 g C i k 4).2):=by
 simp[faB,faA,fa4,b2n,List.append_assoc,Nat.add_assoc]
theorem awm(g:Sg)(C:List Lt3)(i k p:Nat)(acc:List Gp×Nat)(u:Bool):(faA g C i k p acc u).1.length+(faA g C i k p acc u).2<=acc.1.length+acc.2+1:=by
 have:=aqx g C i k p (b2n u);unfold faA;simp only[aK];omega
theorem ajK(g:Sg)(C:List Lt3)(i k p:Nat):∀(us:List Bool) (acc:List Gp×Nat),(us.foldl (faA g C i k p) acc).1.length+(us.foldl (faA g C i k p) acc).2<=acc.1.length+acc.2+us.length
 |[],acc=>af _
 |u::us,acc=>by
  have h1:=awm g C i k p acc u;have h2:=ajK g C i k p us (faA g C i k p acc u);rw[List.foldl_cons,List.length_cons];omega
theorem anf(g:Sg)(C:List Lt3)(i k:Nat):∀(us:List Bool) (acc:List Gp×Nat),(us.foldl (faB g C i k) acc).1.length+(us.foldl (faB g C i k) acc).2<=acc.1.length+acc.2+2*us.length
 |[],acc=>af _
 |u::us,acc=>by
  have h1:=ajK g C i k (b2n u) [false,true] acc;have h2:=anf g C i k us (faB g C i k acc u);rw[List.foldl_cons,List.length_cons];have h3:faB g C i k acc u=[false,true].foldl (faA g C i k (b2n u)) acc:=rfl;rw[←h3] at h1;simp only[List.length_cons,List.length_nil] at h1;omega
theorem ang{n:Nat}{W:World}{C:List LV}{a:Option Addr}{c:Nat}(h:aaV n W C a c){x:LV}(hx:x∈C):aa1 n W x:=by
 rcases h.2.2 with rfl|⟨b,o,_,_,h⟩
 ·cases hx
 ·obtain⟨j,hj⟩:=au hx;exact(h j x hj).2
theorem aqE{g:Sg}{t:T}(h:aaH g t=0)(h0:0<=t.head):t.head.toNat<g.length:=by
 have hf:=(aaR h).2.2.1;rw[aa4,decide_eq_false (show ¬t.head<0 by omega),Bool.false_or,Bool.and_eq_true] at hf;have ha:=hf.1;unfold acU at ha;rw[decide_eq_false (show ¬t.head<0 by omega),Bool.false_or] at ha;cases hg:g[t.head.toNat]? with
 |none=>rw[hg] at ha;cases ha
 |some s=>exact(ah.1 hg).1
theorem FrP.own'{b:Nat}{v v':Value}{w X Y:World}{row:Option Nat}(h:FrP b v v' w X)(hg:X.grownBy Y row)(hr:∀r,row=some r->w.heap.size<=r):FrP b v v' w Y:=
 ⟨hg.os.trans h.os,hg.tape.trans h.tape,hg.output.trans h.output,aE h.size hg.size,fun q hq hn=>(hg.block q (aF hq h.size) (fun e=>by have:=hr q e.symm;omega)).trans (h.block q hq hn),h.own⟩
theorem PrS.own'{b:Nat}{gv cv hv v:Value}{P:List GV}{m:Nat}{X Y:World}{row:Option Nat}(h:PrS b gv cv hv v P m X)(hg:X.grownBy Y row)(hr:∀r,row=some r->∃o:Obj,X.heap[r]? =some o/\o.isCells=false):PrS b gv cv hv v P m Y:=
 h.kept fun q hq=>hg.block q hq.lt (fun e=>by
  obtain⟨o,ho,hc⟩:=hr q e.symm;obtain⟨cs,ty,fz,hcs⟩:=hq;rw[hcs] at ho;cases ho;cases hc)
theorem afe{q:Nat}{cs:Array Value}{ty:TypeId}{fz:Nat×Nat}{X Y:World}{row:Option Nat}(h:X.heap[q]? =some (.cells cs ty fz))(hg:X.grownBy Y row)(hr:∀r,row=some r->∃o:Obj,X.heap[r]? =some o/\o.isCells=false):Y.heap[q]? =some (.cells cs ty fz):=
 (hg.block q (aj.1 h).1 (fun e=>by
  obtain⟨o,ho,hc⟩:=hr q e.symm;rw[h] at ho;cases ho;cases hc)).trans h
def FpI(g:Sg)(C:List LV)(i k b:Nat)(gv cv hv v:Value)(D:List Gp)(m:Nat)(w W0:World)(pre:List Bool)(W:World):Prop:=
 (∃(v':Value) (G':List GV) (m':Nat),(gps G',m')=pre.foldl (faB g (t3s C) i k) (D,m)/\PrS b gv cv hv v' G' m' W/\FrP b v v' W0 W)/\
  W.heap[w.heap.size]? =some (.cells #[.pointer (some ⟨b,0,none⟩)] 99 (0,0))/\W.heap[w.heap.size+1]? =some (.cells #[.int .i64 (k:Int)] 3 (0,0))/\w.heap.size+4<=W.heap.size
theorem aqF{g:Sg}{C:List LV}{i k b:Nat}{gv cv hv v:Value}{D:List Gp}{m:Nat}{w W0:World}{B:Nat}(hB:W0.heap.size<=B):OwnFrom B (FpI g C i k b gv cv hv v D m w W0):=fun pre X Y row hs hg hr=>by
 obtain⟨⟨v',G',m',h1,h2,h3⟩,h4,h5,h6⟩:=hs;have hr2:∀r,row=some r->∃o:Obj,X.heap[r]? =some o/\o.isCells=false:=fun r e=>(hr r e).2;exact⟨⟨v',G',m',h1,h2.own' hg hr2,h3.own' hg (fun r e=>aE hB (hr r e).1)⟩,afe h4 hg hr2,afe h5 hg hr2,aE h6 hg.size⟩
def FqI(g:Sg)(C:List LV)(i k p b:Nat)(gv cv hv:Value)(acc:List Gp×Nat)(v0:Value)(W:World)(b3 Bs:Nat)(ys:Array Value)(pre:List Bool)(X:World):Prop:=
 (∃(v':Value) (G':List GV) (m':Nat),(gps G',m')=pre.foldl (faA g (t3s C) i k p) acc/\PrS b gv cv hv v' G' m' X/\FrP b v0 v' W X)/\
  X.heap[b3]? =some (.cells #[.pointer (some ⟨b,0,none⟩)] 99 (0,0))/\X.heap[Bs]? =some (.cells ys 113 (0,0))/\W.heap.size<=X.heap.size
theorem aqG{g:Sg}{C:List LV}{i k p b:Nat}{gv cv hv:Value}{acc:List Gp×Nat}{v0:Value}{W:World}{b3 Bs:Nat}{ys:Array Value}{B:Nat}(hB:W.heap.size<=B):OwnFrom B (FqI g C i k p b gv cv hv acc v0 W b3 Bs ys):=fun pre X Y row hs hg hr=>by
 obtain⟨⟨v',G',m',h1,h2,h3⟩,h4,h5,h6⟩:=hs;have hr2:∀r,row=some r->∃o:Obj,X.heap[r]? =some o/\o.isCells=false:=fun r e=>(hr r e).2;exact⟨⟨v',G',m',h1,h2.own' hg hr2,h3.own' hg (fun r e=>aE hB (hr r e).1)⟩,afe h4 hg hr2,afe h5 hg hr2,aE h6 hg.size⟩
attribute [local go_sem] Oper.semAt_some
theorem ahG(g:Sg)(C:List LV)(hCl:C.length<=30)(hsz:∀x∈C,x.sz)(hok:aaN g (t3s C)=0)(how:Value)(ga:Option Addr)(gc:Nat)(a:Option Addr)(c:Nat)(b:Nat)(v:Value)(P:List GV)(m:Nat)(hPl:P.length+m<=5000)(i k:Nat)(x z:LV)(hx:C[i]? =some x)(hz:C[k]? =some z)
 (w:World) (h:PrS b (.slice ga g.length gc) (.slice a C.length c) how v P m w) (hG:aaX b w g ga gc) (hC:aaV b w C a c):
 Calls Tryz.prog 37 #[.pointer (some ⟨b,0,none⟩),.int .i64 (i:Int),.int .i64 (k:Int)] w (ag2 b (.slice ga g.length gc) (.slice a C.length c) how v (gps P++(fa4 g (t3s C) i k 4).1) (m+(fa4 g (t3s C) i k 4).2) w):=by
 have hbl:=h.lt;obtain⟨w2,hw2⟩:∃w2,(w.alloc (.cells #[.pointer (some ⟨b,0,none⟩)] 99)).alloc (.cells #[.int .i64 (k:Int)] 3)=w2:=⟨_,rfl⟩;have hb2:Below w.heap.size w w2:=by rw[←hw2];exact((ag _ w).alloc (af _) _).alloc (by simp) _
 have hz2:w2.heap.size=w.heap.size+2:=by rw[←hw2];simp
 have hx3:w2.heap[w.heap.size]? =some (.cells #[.pointer (some ⟨b,0,none⟩)] 99 (0,0)):=by rw[←hw2];exact(az _ _ _ (by simp)).trans (heap_alloc_new w _)
 have hx5:w2.heap[w.heap.size+1]? =some (.cells #[.int .i64 (k:Int)] 3 (0,0)):=by rw[←hw2];have:=heap_alloc_new (w.alloc (.cells #[.pointer (some ⟨b,0,none⟩)] 99)) (.cells #[.int .i64 (k:Int)] 3);simpa using this
 have p3:w2.cell? ⟨w.heap.size,0,none⟩=some (.pointer (some ⟨b,0,none⟩)):=by simp[World.cell?,hx3]
 have p5:w2.cell? ⟨w.heap.size+1,0,none⟩=some (.int .i64 (k:Int)):=by simp[World.cell?,hx5]
 have h2:=h.later hb2;obtain⟨_,_,_,c3,_,_,_⟩:=h2.cells;have CS:=ae (aha C i x hx (by omega) b a c w2 (by omega) (hC.below (hb2.mono (by omega))));refine(callsIn_wide (n:=9)).1 ?_;refine callsIn_of_wp_marks Tryz.func37 rfl trivial ?_ rfl;simp only[Tryz.ntmps37,List.size_toArray,List.length_cons,List.length_nil,Nat.reduceAdd,Nat.reduceSub,Array.replicate_succ,Array.replicate_zero,List.push_toArray,List.append_toArray,List.nil_append,List.cons_append]
 gi_wp2_with (refine⟨trivial,?_⟩;gi_at_call 70;refine(callsIn_wide.2 CS.out).mono ?_;rintro e w' ⟨rfl,rfl⟩)
 obtain⟨W0,hW0⟩:∃W0,(w2.alloc (.cells #[.int .i64 (i:Int)] 3)).alloc x.obj=W0:=⟨_,rfl⟩;have hb0:Below w2.heap.size w2 W0:=by rw[←hW0];exact((ag _ w2).alloc (af _) _).alloc (by simp) _
 have hz0:W0.heap.size=w.heap.size+4:=by rw[←hW0];simp;omega
 have hi1:W0.heap[w.heap.size+2]? =some (.cells #[.int .i64 (i:Int)] 3 (0,0)):=by rw[←hW0,←hz2];exact(az _ _ _ (by simp)).trans (heap_alloc_new w2 _)
 have hi2:W0.heap[w.heap.size+2+1]? =some x.obj:=by
  rw[←hW0];have:=World.alloc_heap_new (w2.alloc (.cells #[.int .i64 (i:Int)] 3)) x.obj;rw[World.size_alloc,hz2] at this;exact this
 rw[hW0];have hI0:FpI g C i k b (.slice ga g.length gc) (.slice a C.length c) how v (gps P) m w W0 [] W0:=⟨⟨v,P,m,rfl,h2.later hb0,FrP.refl _ _ _⟩,(hb0.block _ (by omega)).trans hx3,(hb0.block _ (by omega)).trans hx5,by omega⟩;have HBW0:=ae (hb2.trans (hb0.mono hb2.size));have H:=ae h;have HG:=ae hG;have HC:=ae hC;have HOK:=ae hok;have HSZ:=ae hsz;have HXZ:=ae (And.intro hx hz);clear hW0 hw2 CS h2 c3 p3 p5 hx3 hx5 hb0 h hG hC hok hsz hx hz
 refine wpIn_rangeFunc_ownH rfl (by omega) (gf:=120) (lb:=#[.pointer (some ⟨w.heap.size+2,0,none⟩),.pointer (some ⟨w.heap.size+2+1,0,none⟩)]) rfl trivial (enters_of Tryz.func120 (by kernel_rfl) rfl)
  (afD Fence.wide 8 trivial rfl (by omega) i x (w.heap.size+2) (w.heap.size+2+1) W0 (by omega) (by omega) hi1 hi2) (fun h k=>awk h k) (awl (by omega) (by omega)) (ag _ _) (fun _=>rfl)
  (FpI g C i k b (.slice ga g.length gc) (.slice a C.length c) how v (gps P) m w W0)
  (fun _ _ _=>False)
  (aqF (af _))
  (fun _ _ _ _ _ hs _ _=>hs)
  hI0
  (fun u a' W=>∃Bs,w.heap.size+4<=Bs/\W.heap[Bs]? =some (.cells (sdC i (sdY x (b2n u))) 113 (0,0))/\a'={ tmps:=#[.pointer (some ⟨b,0,none⟩),.int .i64 (i:Int),.int .i64 (k:Int),.pointer (some ⟨w.heap.size,0,none⟩),undef,.pointer (some ⟨w.heap.size+1,0,none⟩),.pointer (some ⟨Bs,0,none⟩),undef,.pointer (some ⟨b,0,none⟩),.pointer (some ⟨b,0,none⟩),.pointer (some ⟨b,3,none⟩),.slice a C.length c,.int .i64 (i:Int),.func (.func 120) #[] #[.pointer (some ⟨w.heap.size+2,0,none⟩),.pointer (some ⟨w.heap.size+2+1,0,none⟩)],sdV i (sdY x (b2n u)),undef,undef,undef,undef,undef,undef,undef,undef,undef,undef,undef,undef,undef,undef,undef,undef,undef],defers:=[]})
  (fun u a' _ X Y row hs hg hr=>by obtain⟨Bs,h1,h2,h3⟩:=hs;exact⟨Bs,h1,afe h2 hg (fun r e=>(hr r e).2),h3⟩)
  ?assign ?body ?done ?stop
 case assign=>
  rintro l pre u W K hi hK;have hI:=hi;have hsz1:=hi.2.2.2
  gi_wp2
  refine hK _ _ ((KeepsOthers.alloc _ _).from _) ⟨az _ _ _ (by omega),az _ _ _ (by omega)⟩ ((aqF (B:=W0.heap.size) (af _)).alloc _ hI) ⟨W.heap.size,hsz1,heap_alloc_new W _,rfl⟩
 case body=>
  rintro l pre u a' W hl ⟨r,hr⟩ ⟨⟨v',G',m',h1,h2,h3⟩,h4,h5,h6⟩ ⟨Bs,hBs,hbs,rfl⟩ hlt;have hlen:=anf g (t3s C) i k pre (gps P,m);rw[←h1] at hlen;simp only[adO] at hlen;have hbb:=h2.lt;have hWs:=h3.size;obtain⟨_,_,_,c3,_,_,_⟩:=h2.cells;have p3:W.cell? ⟨w.heap.size,0,none⟩=some (.pointer (some ⟨b,0,none⟩)):=by simp[World.cell?,h4]
  have p5:W.cell? ⟨w.heap.size+1,0,none⟩=some (.int .i64 (k:Int)):=by simp[World.cell?,h5]
  have hBw:Below b w W:=((FrP.of HBW0.out).trans h3).below (by omega) (af _) (fun q hq=>by have:=(H.out.ob hq).1;omega);have CS2:=ae (aha C k z HXZ.out.2 (by omega) b a c W.drew (by show b<=W.heap.size;omega) (HC.out.below hBw.drew));have hmx:Tryz.prog.follows .mixedOrders=true:=by kernel_rfl
  have H2:=ae h2;have H3:=ae h3;have HBX:=ae (And.intro h4 (And.intro h5 hbs));have HD:=ae h1;have HL:=ae hlen;clear h1 h2 h3 h4 h5 hbs hlen
  gi_wp2
  gi_region_with_o (refine⟨trivial,?_⟩;gi_at_call 70;refine(CallsIn.inRound l (callsIn_wide.2 CS2.out)).mono ?_;rintro e w' ⟨rfl,rfl⟩)
  all_goals
   obtain⟨W1,hW1⟩:∃W1,((W.alloc (.cells #[.int .i64 (k:Int)] 3)).alloc z.obj).drew=W1:=⟨_,rfl⟩;have hbW1:Below W.heap.size W W1:=by rw[←hW1];exact(((ag _ W).alloc (af _) _).alloc (by simp) _).drew
   have hzW1:W1.heap.size=W.heap.size+2:=by rw[←hW1];show((W.alloc (.cells #[.int .i64 (k:Int)] 3)).alloc z.obj).heap.size=_;simp
   have hj1:W1.heap[W.heap.size]? =some (.cells #[.int .i64 (k:Int)] 3 (0,0)):=by
    rw[←hW1];exact(az (W.alloc (.cells #[.int .i64 (k:Int)] 3)) _ _ (by simp)).trans (heap_alloc_new W _)
   have hj2:W1.heap[W.heap.size+1]? =some z.obj:=by
    rw[←hW1];have:=World.alloc_heap_new (W.alloc (.cells #[.int .i64 (k:Int)] 3)) z.obj;rw[World.size_alloc] at this;exact this
   have hr1:W1.heap[l]? =some (.loop r):=(hbW1.block l (aj.1 hr).1).trans hr;have hI1:FqI g C i k (b2n u) b (.slice ga g.length gc) (.slice a C.length c) how (gps G',m') v' W1 w.heap.size Bs (sdC i (sdY x (b2n u))) [] W1:=⟨⟨v',G',m',rfl,H2.out.later hbW1,FrP.refl _ _ _⟩,(hbW1.block _ (by omega)).trans HBX.out.1,(hbW1.block _ (aj.1 HBX.out.2.2).1).trans HBX.out.2.2,by omega⟩;rw[hW1];clear hW1 c3 p3 p5 CS2
   gi_wp2
   refine wpIn_rangeFunc_ownN (l₀:=l) (r₀:=r) rfl hr1 (by omega) (gf:=120) (lb:=#[.pointer (some ⟨W.heap.size,0,none⟩),.pointer (some ⟨W.heap.size+1,0,none⟩)]) rfl trivial (enters_of Tryz.func120 (by kernel_rfl) rfl)
    ((afD Fence.wide 6 trivial rfl (by omega) k z W.heap.size (W.heap.size+1) W1 (by omega) (by omega) hj1 hj2).inRound l) (fun h k=>awk h k) (awl (by omega) (by omega)) (ag _ _) (fun _=>rfl)
    (FqI g C i k (b2n u) b (.slice ga g.length gc) (.slice a C.length c) how (gps G',m') v' W1 w.heap.size Bs (sdC i (sdY x (b2n u))))
    (fun _ _ _=>False)
    (aqG (af _))
    (fun _ _ _ _ _ hs _ _=>hs)
    hI1
    (fun s a' X=>∃Bu,W.heap.size<=Bu/\X.heap[Bu]? =some (.cells (sdC k (sdY z (b2n s))) 113 (0,0))/\a'={ tmps:=#[.pointer (some ⟨b,0,none⟩),.int .i64 (i:Int),.int .i64 (k:Int),.pointer (some ⟨w.heap.size,0,none⟩),undef,.pointer (some ⟨w.heap.size+1,0,none⟩),.pointer (some ⟨Bs,0,none⟩),.pointer (some ⟨Bu,0,none⟩),.pointer (some ⟨b,0,none⟩),.pointer (some ⟨b,0,none⟩),.pointer (some ⟨b,3,none⟩),.slice a C.length c,.int .i64 (i:Int),.func (.func 120) #[] #[.pointer (some ⟨w.heap.size+2,0,none⟩),.pointer (some ⟨w.heap.size+2+1,0,none⟩)],sdV i (sdY x (b2n u)),.pointer (some ⟨b,0,none⟩),.pointer (some ⟨b,0,none⟩),.pointer (some ⟨b,3,none⟩),.slice a C.length c,.int .i64 (k:Int),.func (.func 120) #[] #[.pointer (some ⟨W.heap.size,0,none⟩),.pointer (some ⟨W.heap.size+1,0,none⟩)],sdV k (sdY z (b2n s)),undef,undef,undef,undef,undef,undef,undef,undef,undef,undef],defers:=[]})
    (fun s a' _ X Y row hs hg hr=>by obtain⟨Bu,h1,h2,h3⟩:=hs;exact⟨Bu,h1,afe h2 hg (fun r e=>(hr r e).2),h3⟩)
    ?assign2 ?body2 ?done2 ?stop2
   case assign2=>
    rintro l2 pre2 s X K hi hK;have hI:=hi;have hsX:=hi.2.2.2
    gi_wp2
    refine hK _ _ ((KeepsOthers.alloc _ _).from _) ⟨az _ _ _ (by omega),az _ _ _ (by omega)⟩ ((aqG (B:=W1.heap.size) (af _)).alloc _ hI) ⟨X.heap.size,by omega,heap_alloc_new X _,rfl⟩
   case body2=>
    rintro l2 pre2 s a'' X hl2 _ ⟨⟨v2,G2,m2,q1,q2,q3⟩,q4,q5,q6⟩ ⟨Bu,hBu,hbu,rfl⟩ hlt2;have hlen2:=ajK g (t3s C) i k (b2n u) pre2 (gps G',m');rw[←q1] at hlen2;simp only[adO] at hlen2;have hL1:=HL.out;have hbX:=q2.lt;have hBX:Below b w X:=(((FrP.of HBW0.out).trans H3.out).trans ((FrP.of hbW1).trans q3)).below (by omega) (af _) (fun r hr=>by have:=(H.out.ob hr).1;omega);have hGX:=HG.out.below hBX;have hCX:=HC.out.below hBX;have hxl:aa1 b X x:=ang hCX (ak HXZ.out.1);have hzl:aa1 b X z:=ang hCX (ak HXZ.out.2);have lx:=(aba HOK.out).2.2 x.t3 (ak (adY HXZ.out.1));have lz:=(aba HOK.out).2.2 z.t3 (ak (adY HXZ.out.2));have ex:aaH g (sdY x (b2n u)).l=0:=by rw[ajI];exact(acK (a:=b2n u) lx).1
    have ez:aaH g (sdY z (b2n s)).l=0:=by rw[ajI];exact(acK (a:=b2n s) lz).1
    have KX:=ae (show ∀X2:World,Below X.heap.size X X2->X2.cell? ⟨w.heap.size,0,none⟩=some (.pointer (some ⟨b,0,none⟩))/\X2.cell? ⟨Bs,0,none⟩=some (.int .i64 (i:Int))/\X2.cell? ⟨Bs,1,none⟩=some (.int .i64 (sdY x (b2n u)).l.head)/\X2.cell? ⟨Bs,2,none⟩=some (.slice (sdY x (b2n u)).pa (sdY x (b2n u)).l.args.length (sdY x (b2n u)).ca)/\X2.cell? ⟨Bs,3,none⟩=some (.int .i64 (sdY x (b2n u)).r.head)/\X2.cell? ⟨Bs,4,none⟩=some (.slice (sdY x (b2n u)).pb (sdY x (b2n u)).r.args.length (sdY x (b2n u)).cb)/\X2.cell? ⟨Bu,0,none⟩=some (.int .i64 (k:Int))/\X2.cell? ⟨Bu,1,none⟩=some (.int .i64 (sdY z (b2n s)).l.head)/\X2.cell? ⟨Bu,2,none⟩=some (.slice (sdY z (b2n s)).pa (sdY z (b2n s)).l.args.length (sdY z (b2n s)).ca)/\X2.cell? ⟨Bu,3,none⟩=some (.int .i64 (sdY z (b2n s)).r.head)/\X2.cell? ⟨Bu,4,none⟩=some (.slice (sdY z (b2n s)).pb (sdY z (b2n s)).r.args.length (sdY z (b2n s)).cb) from fun X2 hb=>by
     have e4:=(hb.block _ (aj.1 q4).1).trans q4;have e5:=(hb.block _ (aj.1 q5).1).trans q5;have e6:=(hb.block _ (aj.1 hbu).1).trans hbu;refine⟨?_,?_,?_,?_,?_,?_,?_,?_,?_,?_,?_⟩
     ·simp[World.cell?,e4]
     ·simp[World.cell?,e5]
     ·simp[World.cell?,e5]
     ·simp[World.cell?,e5]
     ·simp[World.cell?,e5]
     ·simp[World.cell?,e5]
     ·simp[World.cell?,e6]
     ·simp[World.cell?,e6]
     ·simp[World.cell?,e6]
     ·simp[World.cell?,e6]
     ·simp[World.cell?,e6])
    obtain⟨tb,htb⟩:∃tb,ane g (sdY x (b2n u)).l (sdY z (b2n s)).l=tb:=⟨_,rfl⟩;have CT0:=ahF g ga gc b (.slice a C.length c) how v2 G2 m2 (sdY x (b2n u)).l (sdY z (b2n s)).l (aqE ex) (aqE ez) (sdY x (b2n u)).pa (sdY x (b2n u)).ca (sdY z (b2n s)).pa (sdY z (b2n s)).ca X q2 b (by omega) hGX;rw[htb] at CT0;have CT:=ae CT0
    have npf2:∀r,W.heap.size<=r->r<W1.heap.size->¬PF b v2 r:=fun r h1 h2 e=>by
     rcases e with e|e
     ·have:=H2.out.lt;omega
     ·have:=(H2.out.ob (q3.own r h2 e)).2.lt;omega
    have FIN:=ae (fun(X3:World) (v5:Value) (G5:List GV) (m5:Nat) (hF:FrP b v2 v5 X X3) (hP:PrS b (.slice ga g.length gc) (.slice a C.length c) how v5 G5 m5 X3) (hD:(gps G5,m5)=faA g (t3s C) i k (b2n u) (gps G2,m2) s) (hb4:X3.heap[w.heap.size]? =X.heap[w.heap.size]?) (hb5:X3.heap[Bs]? =X.heap[Bs]?)=>show KeepsFrom W1.heap.size X X3/\sdK W.heap.size (W.heap.size+1) X X3/\FqI g C i k (b2n u) b (.slice ga g.length gc) (.slice a C.length c) how (gps G',m') v' W1 w.heap.size Bs (sdC i (sdY x (b2n u))) (pre2++[s]) X3 from
     ⟨⟨hF.size,fun r o _ ho hc=>(hF.block r (aj.1 ho).1 (fun e=>by
       rcases e with e|e
       ·have hb:=q2.box;rw[←e,ho] at hb;cases hb;cases hc
       ·obtain⟨cs,ty,fz,hcs⟩:=(q2.ob e).2;rw[ho] at hcs;cases hcs;cases hc)).trans ho⟩,⟨hF.block _ (by omega) (npf2 _ (by omega) (by omega)),hF.block _ (by omega) (npf2 _ (by omega) (by omega))⟩,
       ⟨v5,G5,m5,by rw[List.foldl_append,←q1];exact hD,hP,q3.trans hF⟩,hb4.trans q4,hb5.trans q5,aE q6 hF.size⟩)
    cases tb with
    |false=>
     obtain⟨f0,s0,s1,s2,s3,s4,u0,u1,u2,u3,u4⟩:=KX.out X (ag _ _);clear KX
     gi_wp2_with (refine⟨trivial,?_⟩;gi_at_call 71;refine(CallsIn.inRound l2 (callsIn_wide.2 CT.out)).mono ?_;rintro e X2 ⟨rfl,hb⟩)
     have hnt:ane g (aae x.t3 (b2n u)).1 (aae z.t3 (b2n s)).1=false:=by rw[←ajI,←ajI];exact htb
     have hfa:faS g (t3s C) i k (b2n u) (b2n s)=(none,0):=by
      unfold faS;rw[aaD (adY HXZ.out.1),aaD (adY HXZ.out.2),if_pos];apply Classical.byContradiction;intro hno;rw[ade.2 hno] at hnt;cases hnt
     have hfin:=FIN.out X2 v2 G2 m2 (FrP.of hb) (q2.later hb) (by unfold faA;rw[hfa];simp) (hb.block _ (aj.1 q4).1) (hb.block _ (aj.1 q5).1);exact hfin
    |true=>
     have hnt:ane g (aae x.t3 (b2n u)).1 (aae z.t3 (b2n s)).1=true:=by rw[←ajI,←ajI];exact htb
     have CF:=ae (fun(X2:World) (hb:Below X.heap.size X X2)=>ak4 g C hCl HSZ.out HOK.out how ga gc a c b v2 G2 m2 (by omega) (by omega) i k (b2n u) (b2n s) x z HXZ.out.1 HXZ.out.2 hnt X2 (q2.later hb) (hGX.below (hb.mono (by omega))) (hCX.below (hb.mono (by omega))) (hxl.below (hb.mono (by omega))) (hzl.below (hb.mono (by omega))));have KXH:=ae (And.intro (aj.1 q4).1 (aj.1 q5).1);obtain⟨f0,s0,s1,s2,s3,s4,u0,u1,u2,u3,u4⟩:=KX.out X (ag _ _)
     gi_wp2_with (first
      |(refine⟨trivial,?_⟩;gi_at_call 71;refine(CallsIn.inRound l2 (callsIn_wide.2 CT.out)).mono ?_;rintro e X2 ⟨rfl,hb⟩;obtain⟨f0,s0,s1,s2,s3,s4,u0,u1,u2,u3,u4⟩:=KX.out X2 hb)
      |(refine⟨trivial,?_⟩;gi_at_call 72;refine(CallsIn.inRound l2 (callsIn_wide.2 (CF.out X2 hb))).mono ?_;rintro e X3 ⟨rfl,v5,G5,r1,r2,r3⟩))
     have hobb:∀q,v2.ownBlock=some q->b<q:=fun q hq=>(q2.ob hq).1;have hX23:=hb.size
     have npf3:∀(q:Nat) (cs:Array Value) (ty:TypeId),X.heap[q]? =some (.cells cs ty (0,0))->ty≠44->q≠b->¬PF b v2 q:=fun q cs ty hq hty hne e=>by
      rcases e with e|e
      ·exact hne e
      ·obtain⟨_,_,cur,hcur⟩:=Mm.rowBlock q2.own e;rw[hq] at hcur;injection hcur with hcur
       injection hcur with _ h2 _
       exact hty h2
     have k4:X3.heap[w.heap.size]? =X.heap[w.heap.size]? :=(r3.block _ (by have:=KXH.out.1;omega) (npf3 _ _ _ q4 (by decide) (by omega))).trans (hb.block _ KXH.out.1);have k5:X3.heap[Bs]? =X.heap[Bs]? :=(r3.block _ (by have:=KXH.out.2;omega) (npf3 _ _ _ q5 (by decide) (by omega))).trans (hb.block _ KXH.out.2);exact FIN.out X3 v5 G5 _ ((FrP.of hb).trans r3) r2 (by unfold faA;rw[←r1]) k4 k5
   case done2=>
    rintro xs X rfl ⟨⟨v2,G2,m2,q1,q2,q3⟩,q4,q5,q6⟩
    replace q3:=(FrP.of hbW1).trans q3
    have npf:∀r,w.heap.size<=r->r<W0.heap.size->¬PF b v' r:=fun r h1 h2 e=>by
     rcases e with e|e
     ·omega
     ·have:=(H.out.ob (H3.out.own r h2 e)).2.lt;omega
    have hk2:KeepsFrom W0.heap.size W X:=⟨q3.size,fun r o _ ho hc=>(q3.block r (aj.1 ho).1 (fun e=>by
     rcases e with e|e
     ·have hb:=H2.out.box;rw[←e,ho] at hb;cases hb;cases hc
     ·obtain⟨cs,ty,fz,hcs⟩:=(H2.out.ob e).2;rw[ho] at hcs;cases hcs;cases hc)).trans ho⟩
    have hf:FpI g C i k b (.slice ga g.length gc) (.slice a C.length c) how v (gps P) m w W0 (pre++[u]) X:=⟨⟨v2,G2,m2,by rw[List.foldl_append,←HD.out];exact q1,q2,H3.out.trans q3⟩,q4,(q3.block _ (by omega) (npf _ (by omega) (by omega))).trans HBX.out.2.1,by have:=q3.size;omega⟩;have HF:=ae (And.intro hk2 (And.intro (show sdK (w.heap.size+2) (w.heap.size+2+1) W X from⟨q3.block _ (by omega) (npf _ (by omega) (by omega)),q3.block _ (by omega) (npf _ (by omega) (by omega))⟩) hf));clear hk2 hf npf q1 q2 q3 q4 q5 q6
    gi_wp2
    exact HF.out
   case stop2=>
    rintro c2 pre2 X _ h;exact h.elim
 case done=>
  rintro D xs W hD rfl ⟨⟨v',G',m',h1,h2,h3⟩,h4,h5,h6⟩ hK;rw[auQ] at h1;injection h1 with e1 e2
  subst e2
  gi_wp2
  refine⟨by simp,.inl ⟨_,_,rfl,run_takeDeferred hK,?_⟩⟩;have hr:∀r,some D=some r->∃o:Obj,W.heap[r]? =some o/\o.isCells=false:=fun r e=>by cases e;exact⟨_,hK,rfl⟩
  exact⟨_,results_none rfl _ _ _,rfl,v',G',e1,h2.own' (grownBy_putObj' W D _) hr,((FrP.of HBW0.out).trans h3).own' (grownBy_putObj' W D _) (fun r e=>by cases e;omega)⟩
 case stop=>
  rintro D c pre W _ _ h _;exact h.elim
end Go.Proofs.YtabfapijgfjflaaGreat
namespace Go.Proofs.YtabfapijgfjflaaGreat
open Go.RowKit
def FfO(g:Sg)(C:List LV)(gv cv hv:Value)(w2:World)(i:Value)(wr:World):Prop:=
 ∃(j:Nat) (v:Value) (G:List GV),j<=C.length/\i= .int .i64 j/\gps G=(faF g (t3s C) j).1/\PrS w2.heap.size gv cv hv v G (faF g (t3s C) j).2 wr/\Below w2.heap.size w2 wr
def FfK(g:Sg)(C:List LV)(gv cv hv:Value)(w2:World)(j:Nat)(v0:Value)(W1:World)(i:Value)(wr:World):Prop:=
 ∃(k:Nat) (v:Value) (G:List GV),k<=C.length/\i= .int .i64 k/\gps G=(faF g (t3s C) j).1++(faK g (t3s C) j k).1/\PrS w2.heap.size gv cv hv v G ((faF g (t3s C) j).2+(faK g (t3s C) j k).2) wr/\FrP w2.heap.size v0 v W1 wr
theorem ajL{C:List LV}{i k:Nat}{x z:LV}(hx:C[i]? =some x)(hz:C[k]? =some z):au5 (t3s C) i k=(decide (i≠k)&&(!x.n&& !z.n)):=by
 unfold au5;rw[aaD (adY hx),aaD (adY hz)];rfl
theorem aei:ash:=by
 intro g P how hF aM ga gc a c w hn hhow hG hP;have hCl:P.length<=8:=hF.1;have hlc:P.length<=c/\c<=maxLen:=⟨hP.1,hP.2.1⟩;have HLC:=ae hlc;have HSZ:=ae hF.sz;have HG:=ae (hG.mono hn);have HP:=ae (hP.mono hn);have HW:=ae hhow;have CS:=ae (ada g P hF.sz how aM ga gc a c w hn hG hP);clear hG hP hF hlc hhow;go_enter Tryz.func12,Tryz.ntmps12
 go_wp2_with fail
 refine CS.out.mono ?_;rintro e w2 ⟨p2,c2,rfl,_,hb2⟩;have HB2:=ae hb2;have hz2:=hb2.size;clear hb2 CS;by_cases hse:seE g (t3s P) how=0
 case neg=>
  have h1:faG g (t3s P) how=[]:=by unfold faG;rw[if_neg hse]
  have h2:faN g (t3s P) how=0:=by unfold faN;rw[if_neg hse]
  obtain⟨k,hk⟩:∃k,seE g (t3s P) how=k:=⟨_,rfl⟩;have HN:=ae (And.intro h1 (And.intro h2 hk));rw[hk] at hse ⊢;have h3:(k != 0)=true:=by simpa using hse
  clear hse hk h1 h2;go_wp2;go_ret3;exact⟨[],none,0,HN.out.1.symm,fun _=>rfl,by rw[HN.out.2.1,HN.out.2.2];rfl,ahl.nil _ _ _ (by simp[maxLen]),HB2.out⟩
 have HSE:=ae hse
 have hsl:seL g (t3s P) how=abb g (t3s P) how:=by
  obtain⟨h1,h2⟩:=adL hse;exact(apy h1 h2).2
 rw[hse,hsl];clear hse hsl;by_cases hpk:abb g (t3s P) how=[]
 case neg=>
  have hpl:0<(abb g (t3s P) how).length:=List.length_pos_iff.2 hpk;have HN:=ae (show faG g (t3s P) how=[]/\faN g (t3s P) how=0 from⟨by unfold faG;rw[if_pos HSE.out,if_neg hpk],by unfold faN;rw[if_pos HSE.out,if_neg hpk]⟩);obtain⟨L,hL⟩:∃L,(abb g (t3s P) how).length=L:=⟨_,rfl⟩;rw[hL] at hpl ⊢;have h3:(0:Int)<(L:Int):=by omega
  clear hpk hL;go_wp2;go_ret3;exact⟨[],none,0,HN.out.1.symm,fun _=>rfl,by rw[HN.out.2,HSE.out];rfl,ahl.nil _ _ _ (by simp[maxLen]),HB2.out⟩
 have HPK:=ae hpk;rw[hpk];clear hpk;have hlc:=HLC.out;unfold maxLen at hlc;obtain⟨hlc1,hlc2⟩:=hlc;obtain⟨w3,hw3⟩:∃w3,w2.alloc (.cells #[.slice none 0 0,.int .i64 0,.slice ga g.length gc,.slice a P.length c,.int .i64 how] 57)=w3:=⟨_,rfl⟩;have hb3:Below w2.heap.size w2 w3:=by rw[←hw3];exact(ag _ _).alloc (af _) _
 have hbox:w3.heap[w2.heap.size]? =some (.cells #[.slice none 0 0,.int .i64 (0:Nat),.slice ga g.length gc,.slice a P.length c,.int .i64 how] 57 (0,0)):=by rw[←hw3];exact heap_alloc_new w2 _
 have HP0:=ae (show PrS w2.heap.size (.slice ga g.length gc) (.slice a P.length c) (.int .i64 how) (.slice none 0 0) [] 0 w3 from⟨hbox,⟨by simp[aay],.inl ⟨rfl,rfl⟩⟩,by simp⟩);have HB3:=ae hb3;have HOK:=ae (adL HSE.out).1;clear hb3 hbox;go_wp2;clear hw3
 go_loopw [37] (fun i wr=>FfO g P (.slice ga g.length gc) (.slice a P.length c) (.int .i64 how) w2 i wr) (fun i _=>P.length-(intOf i).toNat)
 case atStart=>exact⟨0,_,[],Nat.zero_le _,rfl,rfl,HP0.out,HB3.out⟩
 case round=>
  clear HP0 HB3;obtain⟨j,v0,G0,hj,rfl,hG0,hPr0,hB0⟩:=hrel;obtain⟨wo,hwo⟩:∃wo,wo=wr:=⟨_,rfl⟩;subst hwo;by_cases hltj:j<P.length
  ·obtain⟨bb,oo,x,rfl,hbb,hx,⟨e0,e1,e2,e3,e4⟩,hxl⟩:=(HP.out.below (HB2.out.trans (hB0.mono hz2))).elem (i:=j) hltj;have hk0:(0:Int)<=(j:Int):=by omega
   have hk1:(j:Int)<(P.length:Int):=by omega
   have hbz:=hB0.size;have hbw:bb<wo.heap.size:=by omega
   have HX:=ae hx;obtain⟨W1,hW1⟩:∃W1,wo.alloc (.cells #[.bool x.n,.int .i64 x.l.head,.slice x.pa x.l.args.length x.ca,.int .i64 x.r.head,.slice x.pb x.r.args.length x.cb] 62)=W1:=⟨_,rfl⟩;have hbW1:Below wo.heap.size wo W1:=by rw[←hW1];exact(ag _ _).alloc (af _) _
   have hzW1:W1.heap.size=wo.heap.size+1:=by rw[←hW1];simp
   have hbx:W1.heap[wo.heap.size]? =some (.cells #[.bool x.n,.int .i64 x.l.head,.slice x.pa x.l.args.length x.ca,.int .i64 x.r.head,.slice x.pb x.r.args.length x.cb] 62 (0,0)):=by rw[←hW1];exact heap_alloc_new wo _
   have HBX:=ae hbx;have HZ1:=ae hzW1;have HG0:=ae hG0;have HPR0:=ae (hPr0.later hbW1);have HOB:=ae (show ∀q,v0.ownBlock=some q->w2.heap.size<q/\q<wo.heap.size from fun q hq=>⟨(hPr0.ob hq).1,(hPr0.ob hq).2.lt⟩);have HBW:=ae (hB0.trans (hbW1.mono hbz));have hbl0:=hPr0.lt;clear hx hxl hPr0 hB0 hG0 hbx hbW1 hzW1;go_wp2;clear hW1 e0 e1 e2 e3 e4
   go_loopw [44] (fun i wk=>FfK g P (.slice ga g.length gc) (.slice (some ⟨bb,oo,none⟩) P.length c) (.int .i64 how) w2 j v0 W1 i wk) (fun i _=>P.length-(intOf i).toNat)
   case atStart=>exact⟨0,v0,G0,Nat.zero_le _,rfl,by rw[HG0.out];simp[faK],HPR0.out,FrP.refl _ _ _⟩
   case round=>
    obtain⟨k,v,G,hk,rfl,hG,hPr,hF⟩:=hrel;obtain⟨wk,hwk⟩:∃wk,wk=wr:=⟨_,rfl⟩;subst hwk;by_cases hltk:k<P.length
    ·have hFb:Below w2.heap.size w2 wk:=HBW.out.trans (hF.below (by have:=HZ1.out;omega) (af _) (fun q hq=>by have:=(HOB.out q hq).1;omega));have hPk:=HP.out.below (HB2.out.trans (hFb.mono hz2));obtain⟨bb',oo',z,hsl,hbb',hz,⟨e0,e1,e2,e3,e4⟩,hzl⟩:=hPk.elem (i:=k) hltk;cases hsl;have hWk:=hF.size
     have hbxk:wk.heap[wo.heap.size]? =some (.cells #[.bool x.n,.int .i64 x.l.head,.slice x.pa x.l.args.length x.ca,.int .i64 x.r.head,.slice x.pb x.r.args.length x.cb] 62 (0,0)):=(hF.block _ (by have:=HZ1.out;omega) (fun e=>by
      rcases e with e|e
      ·omega
      ·have:=(HOB.out _ e).2;omega)).trans HBX.out
     obtain⟨W2,hW2⟩:∃W2,wk.alloc (.cells #[.bool z.n,.int .i64 z.l.head,.slice z.pa z.l.args.length z.ca,.int .i64 z.r.head,.slice z.pb z.r.args.length z.cb] 62)=W2:=⟨_,rfl⟩;have hbW2:Below wk.heap.size wk W2:=by rw[←hW2];exact(ag _ _).alloc (af _) _
     have hbz2:W2.heap[wk.heap.size]? =some (.cells #[.bool z.n,.int .i64 z.l.head,.slice z.pa z.l.args.length z.ca,.int .i64 z.r.head,.slice z.pb z.r.args.length z.cb] 62 (0,0)):=by rw[←hW2];exact heap_alloc_new wk _
     have c1:W2.cell? ⟨wo.heap.size,0,none⟩=some (.bool x.n):=by
      have:=(hbW2.block _ (aj.1 hbxk).1).trans hbxk;simp[World.cell?,this]
     have c2:W2.cell? ⟨wk.heap.size,0,none⟩=some (.bool z.n):=by simp[World.cell?,hbz2]
     have HPW:=ae (hPr.later hbW2);have HFW:=ae (hF.trans (FrP.of hbW2));have HXK:=ae (And.intro HX.out hz);have HGK:=ae hG;have hk2:(0:Int)<=(k:Int):=by omega
     have hk3:(k:Int)<(P.length:Int):=by omega
     have hbw2:bb<wk.heap.size:=by have:=HZ1.out;omega
     clear hbxk hbz2 hFb hPk hF hPr hz hG hzl hbW2;have NX:=ae (fun(hno:au5 (t3s P) j k=false)=>show FfK g P (.slice ga g.length gc) (.slice (some ⟨bb,oo,none⟩) P.length c) (.int .i64 how) w2 j v0 W1 (.int .i64 ((k+1:Nat):Int)) W2 from⟨k+1,v,G,by omega,rfl,by rw[HGK.out,faK,if_neg (by simp[hno])],by rw[faK,if_neg (by simp[hno])];exact HPW.out,HFW.out⟩);by_cases hjk:j=k
     ·have HNO:=ae (NX.out (by rw[ajL HXK.out.1 HXK.out.2];simp[hjk]));have hjk2:(j:Int)=(k:Int):=by omega
      clear hjk;rw[hjk2];clear hjk2;go_wp2
      go_roundw
      case rel=>simpa using HNO.out
      case measure=>simp[intOf];omega
     ·have hjk2:¬((j:Int)=(k:Int)):=by omega
      cases hxn:x.n with
      |true=>
       have HNO:=ae (NX.out (by rw[ajL HXK.out.1 HXK.out.2,hxn];simp));rw[hxn] at c1;clear hxn;go_wp2
       go_roundw
       case rel=>simpa using HNO.out
       case measure=>simp[intOf];omega
      |false=>
       rw[hxn] at c1;cases hzn:z.n with
       |true=>
        have HNO:=ae (NX.out (by rw[ajL HXK.out.1 HXK.out.2,hzn];simp));rw[hzn] at c2;clear hxn hzn;go_wp2
        go_roundw
        case rel=>simpa using HNO.out
        case measure=>simp[intOf];omega
       |false=>
        have HYE:=ae (show au5 (t3s P) j k=true from by rw[ajL HXK.out.1 HXK.out.2,hxn,hzn];simp[hjk]);rw[hzn] at c2;clear hxn hzn
        have hlen:G.length+((faF g (t3s P) j).2+(faK g (t3s P) j k).2)<=5000:=by
         have h1:=congrArg List.length HGK.out;rw[adO,aK] at h1;have h2:=ak1 g (C:=t3s P) (by rw[aeh];omega) (i:=j) (by rw[aeh];omega);have h3:=aqy g (t3s P) j k;omega
        have hB:=HB2.out.trans ((HBW.out.trans (HFW.out.below (by have:=HZ1.out;omega) (af _) (fun q hq=>by have:=(HOB.out q hq).1;omega))).mono hz2);have CT:=ae (ahG g P (by omega) HSZ.out HOK.out (.int .i64 how) ga gc (some ⟨bb,oo,none⟩) c w2.heap.size v G ((faF g (t3s P) j).2+(faK g (t3s P) j k).2) hlen j k x z HXK.out.1 HXK.out.2 W2 HPW.out ((HG.out.below hB).mono hz2) ((HP.out.below hB).mono hz2));clear hlen hB
        go_wp2_with fail
        refine CT.out.mono ?_;rintro e w5 ⟨rfl,v5,G5,hG5,hP5,hF5⟩;have HNO:=ae (show FfK g P (.slice ga g.length gc) (.slice (some ⟨bb,oo,none⟩) P.length c) (.int .i64 how) w2 j v0 W1 (.int .i64 ((k+1:Nat):Int)) w5 from⟨k+1,v5,G5,by omega,rfl,by rw[hG5,HGK.out,faK,if_pos HYE.out,List.append_assoc],by rw[faK,if_pos HYE.out,←Nat.add_assoc];exact hP5,HFW.out.trans hF5⟩);clear hG5 hP5 hF5 CT;go_wp2
        go_roundw
        case rel=>simpa using HNO.out
        case measure=>simp[intOf];omega
    ·obtain rfl:k=P.length:=by omega
     have HNO:=ae (show FfO g P (.slice ga g.length gc) (.slice (some ⟨bb,oo,none⟩) P.length c) (.int .i64 how) w2 (.int .i64 ((j+1:Nat):Int)) wk from⟨j+1,v,G,by omega,rfl,by rw[hG,faF,aeh],by rw[faF,aeh];exact hPr,HBW.out.trans (hF.below (by have:=HZ1.out;omega) (af _) (fun q hq=>by have:=(HOB.out q hq).1;omega))⟩);clear hG hPr hF;go_wp2
     go_roundw
     case rel=>simpa using HNO.out
     case measure=>simp[intOf];omega
  ·obtain rfl:j=P.length:=by omega
   obtain⟨c0,c1,_,_,_,_,_⟩:=hPr0.cells;obtain⟨ra,rc,rfl,hnil,hGS⟩:=hPr0.gs;have HF:=ae (And.intro hnil hGS);have HQ:=ae (HB2.out.trans (hB0.mono hz2))
   have HEN:=ae (show gps G0=faG g (t3s P) how/\(faF g (t3s P) P.length).2=faN g (t3s P) how from by
    have hl:(t3s P).length=P.length:=aeh P;unfold faG faN;rw[if_pos HSE.out,if_pos HSE.out,if_pos HPK.out,if_pos HPK.out,hl];exact⟨hG0,rfl⟩)
   clear hPr0 hB0 hG0 hnil hGS;go_wp2
   go_quiet (fail)
   go_wp2;go_ret3;exact⟨G0,ra,rc,HEN.out.1,HF.out.1,by rw[←HEN.out.2,HSE.out];rfl,HF.out.2.below ⟨rfl,rfl,rfl,af _,fun _ _=>rfl⟩,HQ.out.trans ⟨rfl,rfl,rfl,af _,fun _ _=>rfl⟩⟩
def g12:Sg:=[sy0,⟨⟨#[97]⟩,0,1,false⟩,⟨⟨#[98]⟩,0,1,false⟩,⟨⟨#[102]⟩,1,1,false⟩]
def A12:T:= .node 1 []
def B12:T:= .node 2 []
def X12:T:= .node (-1) []
def aou:T:= .node 3 [X12]
def aov:T:= .node 3 [A12]
def c12:List Lt3:=[⟨true,aou,aov⟩,⟨false,X12,B12⟩]
def S12:Sb:=[(0,A12)]
theorem awY:abG (fun θ=>aou.sub θ=aov.sub θ) S12:=by
 have hX:∀θ:Int->T,aou.sub θ= .node 3 [θ 0]:=fun θ=>rfl;have hY:∀θ:Int->T,aov.sub θ= .node 3 [.node 1 []]:=fun θ=>rfl;refine⟨by simp[S12],by simp[S12],?_,?_,?_,?_,fun θ hθ v h0 h1=> ?_⟩
 ·intro p hp;simp[S12] at hp;subst hp;rfl
 ·intro p hp q hq hn;simp[S12] at hp;subst hp;simp[A12,T.subs,T.subss] at hq;subst hq;simp[T.head] at hn
 ·intro p hp hn;simp[S12] at hp;subst hp;simp[A12,T.head] at hn
 ·rfl
 ·rw[hX,hY] at hθ;simp only[T.node.injEq,List.cons.injEq,true_and,and_true] at hθ;by_cases e:v=0
  ·subst e;exact hθ
  ·have:ofS S12 v=vt v:=by simp[S12,ofS];intro e2;exact absurd e2.symm e
   rw[this,T.sub_neg (by rw[aaq];omega),aaq,show-1-(-1-v)=v from by omega]
theorem awZ:(uni aou aov).1=S12/\(uni aou aov).2.1=true/\(uni aou aov).2.2=0:=
 adv (.inr ⟨⟨rfl,rfl⟩,.inr ⟨S12,awY,.inr ⟨rfl,rfl,rfl,rfl⟩⟩⟩)
theorem au7:seL g12 c12 1=[0]/\seE g12 c12 1=0:=⟨by kernel_rfl,by kernel_rfl⟩
theorem axq:myR g12 c12 1 0 S12=true:=by kernel_rfl
theorem awn:adj g12 (c12.eraseIdx 0) S12=some [⟨false,A12,B12⟩]:=by kernel_rfl
theorem aw9:eqG g12 c12 1=[⟨[⟨false,A12,B12⟩],0,-1,[],S12⟩]/\eqN g12 c12 1=0:=by
 obtain⟨u1,u2,u3⟩:=awZ
 have h0:eqS g12 c12 1 0 ⟨true,aou,aov⟩=(some ⟨[⟨false,A12,B12⟩],0,-1,[],S12⟩,0):=by
  unfold eqS;rw[if_pos rfl];show(if(uni aou aov).2.1 then _ else _)=_;rw[if_pos u2];show(if myR g12 c12 1 0 (uni aou aov).1 then _ else _)=_;rw[u1,if_pos axq,awn];rfl
 have h1:eqS g12 c12 1 1 ⟨false,X12,B12⟩=(none,0):=by unfold eqS;rw[if_neg (by simp)]
 have hF:eqF g12 c12 1 c12.length=([⟨[⟨false,A12,B12⟩],0,-1,[],S12⟩],0):=by
  show eqF g12 c12 1 2=_;rw[eqF,eqF,eqF];show(([]++(eqS g12 c12 1 0 ⟨true,aou,aov⟩).1.toList)++(eqS g12 c12 1 1 ⟨false,X12,B12⟩).1.toList,(0+(eqS g12 c12 1 0 ⟨true,aou,aov⟩).2)+(eqS g12 c12 1 1 ⟨false,X12,B12⟩).2)=_;rw[h0,h1];rfl
 unfold eqG eqN;rw[if_pos au7.2,if_pos au7.2,hF];exact⟨rfl,rfl⟩
theorem axa:abb g12 c12 1≠[]:=fun e=>by
 have h:(abb g12 c12 1).length=1:=by kernel_rfl
 rw[e] at h;cases h
theorem axb:faG g12 c12 1=[]/\faN g12 c12 1=0:=by
 unfold faG faN;rw[if_pos au7.2,if_pos au7.2,if_neg axa,if_neg axa];exact⟨rfl,rfl⟩
section
variable {P:Program} {md:Region.Mode} {ops:Array Oper} {Q:Exit->Act->World->Prop}
theorem ahb{L:Array Bool}{i:Nat}(h:i∈Region.ready md ops L):L.getD i true=false/\∃o,ops[i]? =some o/\o.after.all (fun e=> !Region.binds md e||L.getD e.on false)=true:=by
 unfold Region.ready at h;rw[List.mem_filter,Bool.and_eq_true] at h;obtain⟨_,h1,h2⟩:=h;refine⟨by simpa using h1,?_⟩;cases ho:ops[i]? with
 |none=>rw[ho] at h2;cases h2
 |some o=>rw[ho] at h2;exact⟨o,rfl,h2⟩
def adx(l:List Bool):Nat:=l.countP (! ·)
theorem anh:∀(l:List Bool) (i:Nat),l[i]? =some false->adx (l.set i true)+1=adx l
 |[],_,h=>by cases h
 |b::l,0,h=>by
  simp at h;subst h;simp[adx]
 |b::l,i+1,h=>by
  have:=anh l i (by simpa using h);simp only[adx,List.set_cons_succ,List.countP_cons] at this ⊢;omega
theorem ak5:∀(l:List Bool),adx l=0->∀i:Nat,l[i]?.getD true=true
 |[],_,i=>by simp
 |b::l,h,0=>by
  cases b
  ·simp[adx] at h
  ·rfl
 |b::l,h,i+1=>by
  have h2:adx l=0:=by
   simp only[adx,List.countP_cons] at h ⊢;omega
  simpa using ak5 l h2 i
theorem ak6{I:Array Bool->Act->World->Prop}(hs:∀L i a w,I L a w->i∈Region.ready md ops L->wpOp P ops Q i (I (L.setIfInBounds i true)) a w)
 (hd:∀L a w,I L a w->Region.ready md ops L=[]->Q .normal a w):∀(fuel:Nat) (L:Array Bool) (a:Act) (w:World),adx L.toList<=fuel->I L a w->wpAny P md ops Q fuel L a w
 |0,L,a,w,h,hI=>by
  have hr:Region.ready md ops L=[]:=by
   apply List.eq_nil_iff_forall_not_mem.2;intro i hi;have h1:=(ahb hi).1;have h2:=ak5 L.toList (Nat.le_zero.1 h) i;simp[Array.getD_eq_getD_getElem?] at h1 h2;rw[h1] at h2;cases h2
  exact⟨hr,hd _ _ _ hI hr⟩
 |fuel+1,L,a,w,h,hI=>⟨fun hr=>hd _ _ _ hI hr,fun i hi=>by
  refine wpOp_mono (fun a' w' h'=>ak6 hs hd fuel _ a' w' ?_ h') (hs L i a w hI hi);have h1:=(ahb hi).1
  have h2:L.toList[i]? =some false:=by
   cases hl:L.toList[i]? with
   |none=>
    have hl2:L[i]? =none:=by simpa using hl
    simp[Array.getD_eq_getD_getElem?,hl2] at h1
   |some b=>
    have hl2:L[i]? =some b:=by simpa using hl
    simp[Array.getD_eq_getD_getElem?,hl2] at h1;rw[h1]
  have h3:=anh L.toList i h2;rw[Array.toList_setIfInBounds];omega⟩
theorem asC(n:Nat):adx (Array.replicate n false).toList=n:=by simp[adx,List.countP_replicate]
theorem ajM{id:Nat}{a:Act}{w:World}(hm:P.follows .mixedOrders=true)(I:Array Bool->Act->World->Prop)
 (h0:I (Array.replicate ops.size false) a w.drew)
 (hs:∀L i a w,I L a w->i∈Region.ready .any ops L->wpOp P ops Q i (I (L.setIfInBounds i true)) a w)
 (hd:∀L a w,I L a w->Region.ready .any ops L=[]->Q .normal a w):(Code.region id ops true).wp P Q a w:=
 wp_region_any hm (ak6 hs hd _ _ _ _ (Nat.le_of_eq (asC _)) h0)
theorem aiD{L:Array Bool}(hs:L.size=ops.size)(hac:(List.range ops.size).all (fun i=>((ops[i]?).map (fun o=>o.after.all fun e=>decide (e.on<i))).getD true)=true)(hr:Region.ready md ops L=[]):∀(n i:Nat),i<n->i<ops.size->L.getD i false=true
 |0,i,h,_=>absurd h (Nat.not_lt_zero i)
 |n+1,i,h,hi=>by
  have ih:∀j,j<i->L.getD j false=true:=fun j hj=>aiD hs hac hr n j (by omega) (by omega);have h1:=List.all_eq_true.1 hac i (List.mem_range.2 hi);have hne:i∉Region.ready md ops L:=by rw[hr];simp
  obtain⟨o,ho⟩:∃o,ops[i]? =some o:=⟨_,Array.getElem?_eq_getElem hi⟩;rw[ho] at h1;have h1':(o.after.all fun e=>decide (e.on<i))=true:=h1;cases hl:L.getD i false with
  |true=>rfl
  |false=>
   exfalso;apply hne;unfold Region.ready;rw[List.mem_filter,ho,Bool.and_eq_true];refine⟨List.mem_range.2 hi,?_,?_⟩
   ·have h3:L[i]? =some L[i]:=Array.getElem?_eq_getElem (by omega);simp[Array.getD_eq_getD_getElem?,h3] at hl ⊢;exact hl
   ·show(o.after.all fun e=> !Region.binds md e||L.getD e.on false)=true;rw[Array.all_eq_true_iff_forall_mem] at h1' ⊢;intro e he;have h4:=of_decide_eq_true (h1' e he);rw[ih _ h4,Bool.or_true]
end
end Go.Proofs.YtabfapijgfjflaaGreat
