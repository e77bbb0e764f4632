import Derived.Test.YtabfapijgfjflaaGreatMQBu
import Derived.Test.YtabfapijgfjflaaGreatMQBz31
import Derived.Test.YtabfapijgfjflaaGreatMQBz28
import Derived.Test.YtabfapijgfjflaaGreatMQBv
import Derived.BigQuiet
import Derived.Deep.QuietTactic
import Derived.Lib.QuietBelow
import Derived.Deep.RegionLaw
import Derived.Deep.RegionHeld3
import Derived.Deep.CutRange
import Derived.Test.YtabfapijgfjflaaGreatMQBz29
import Derived.Test.YtabfapijgfjflaaGreatMAl
set_option linter.unusedVariables false
set_option linter.unusedSimpArgs false
set_option maxRecDepth 100000
set_option maxHeartbeats 16000000
namespace Go.Proofs.YtabfapijgfjflaaGreat
open Go.RowKit
def aqH:List Value:=[.string ⟨#[36,116,114,117,101]⟩,.int .i64 0,.int .i64 1,.bool true,.string ⟨#[97]⟩,.int .i64 0,.int .i64 1,.bool false,.string ⟨#[98]⟩,.int .i64 0,.int .i64 1,.bool false,.string ⟨#[102]⟩,.int .i64 1,.int .i64 1,.bool false]
theorem auR{b:Nat}{X:World}(h:Cs b aqH X):aaX X.heap.size X g12 (some ⟨b,0,none⟩) 4:=by
 obtain⟨h1,h2⟩:=h;refine⟨by simp[g12],by simp[maxLen],.inr ⟨b,0,rfl,h1,fun j x hx=> ?_⟩⟩
 match j,hx with
 |0,hx=>simp[g12] at hx;subst hx;exact⟨⟨by decide,by decide,by decide⟩,h2 0 _ rfl,h2 1 _ rfl,h2 2 _ rfl,h2 3 _ rfl⟩
 |1,hx=>simp[g12] at hx;subst hx;exact⟨⟨by decide,by decide,by decide⟩,h2 4 _ rfl,h2 5 _ rfl,h2 6 _ rfl,h2 7 _ rfl⟩
 |2,hx=>simp[g12] at hx;subst hx;exact⟨⟨by decide,by decide,by decide⟩,h2 8 _ rfl,h2 9 _ rfl,h2 10 _ rfl,h2 11 _ rfl⟩
 |3,hx=>simp[g12] at hx;subst hx;exact⟨⟨by decide,by decide,by decide⟩,h2 12 _ rfl,h2 13 _ rfl,h2 14 _ rfl,h2 15 _ rfl⟩
 |j+4,hx=>simp[g12] at hx
def axc(b1 b2:Nat):LV:=⟨true,aou,aov,some ⟨b1,0,none⟩,1,some ⟨b2,0,none⟩,1⟩
def axd:LV:=⟨false,X12,B12,none,0,none,0⟩
def awF:LV:=⟨false,A12,B12,none,0,none,0⟩
def alk(b1 b2:Nat):List LV:=[axc b1 b2,axd]
theorem ani{n:Nat}{X:World}(h:Int):aab n X (T.node h []).args none 0:=⟨by simp[T.args],by simp[maxLen],.inl rfl⟩
theorem awo{b:Nat}{X:World}{k h:Int}(hk:(Lit.int .i64 h).wf=true)(hc:Cs b [.int .i64 h,.slice none 0 0] X):aab X.heap.size X (T.node k [.node h []]).args (some ⟨b,0,none⟩) 1:=by
 obtain⟨h1,h2⟩:=hc;exact⟨by simp[T.args],by simp[maxLen],.inr ⟨b,0,rfl,h1,⟨hk,h2 0 _ rfl,_,_,h2 1 _ rfl,by simp,by simp[maxLen],.inl rfl⟩,trivial⟩⟩
theorem auS{bc b1 b2:Nat}{X:World}(h:Cs bc (aaf (alk b1 b2)) X)(h1:Cs b1 [.int .i64 (-1),.slice none 0 0] X)(h2:Cs b2 [.int .i64 1,.slice none 0 0] X):aaV X.heap.size X (alk b1 b2) (some ⟨bc,0,none⟩) 2:=
 awc h (by simp[alk,maxLen]) (fun x hx=>by
  simp[alk] at hx
  rcases hx with rfl|rfl
  ·exact⟨(show(Lit.int .i64 3).wf=true from by decide),(show(Lit.int .i64 3).wf=true from by decide),awo (by decide) h1,awo (by decide) h2⟩
  ·exact⟨(show(Lit.int .i64 (-1)).wf=true from by decide),(show(Lit.int .i64 2).wf=true from by decide),ani _,ani _⟩)
theorem auT{bc:Nat}{X:World}(h:Cs bc (aaf [awF]) X):aaV X.heap.size X [awF] (some ⟨bc,0,none⟩) 1:=
 awc h (by simp[maxLen]) (fun x hx=>by
  obtain rfl:=List.mem_singleton.1 hx;exact⟨(show(Lit.int .i64 1).wf=true from by decide),(show(Lit.int .i64 2).wf=true from by decide),ani _,ani _⟩)
theorem ats(b1 b2:Nat):aob (alk b1 b2):=⟨by simp[alk],by simp[alk,axc,axd,LV.t3,t3s,aad,aou,aov,X12,A12,B12,T.size,T.sizes]⟩
theorem ak7(w:World):Calls Tryz.prog 34 #[] w fun e u=>∃bg:Nat,e= .returned (.slice (some ⟨bg,0,none⟩) 4 4)/\Below w.heap.size w u/\aai (fun X=>aaX X.heap.size X g12 (some ⟨bg,0,none⟩) 4) u:=by
 go_enter Tryz.func34,Tryz.ntmps34;go_wp2;go_ret;exact⟨_,rfl,(ag _ w).alloc (af _) _,fun X hX=>auR ((abR w aqH.toArray 80) X hX)⟩
def R13(h:Int)(v:Value)(X:World):Prop:=∃b,v= .slice (some ⟨b,0,none⟩) 1 1/\Cs b [.int .i64 h,.slice none 0 0] X
def R14(h:Int)(v:Value)(X:World):Prop:=∃b,v=tm 3 (some ⟨b,0,none⟩) 1 1/\Cs b [.int .i64 h,.slice none 0 0] X
def R18(v:Value)(X:World):Prop:=∃b1 b2,v= .agg #[.bool true,.int .i64 3,.slice (some ⟨b1,0,none⟩) 1 1,.int .i64 3,.slice (some ⟨b2,0,none⟩) 1 1]/\Cs b1 [.int .i64 (-1),.slice none 0 0] X/\Cs b2 [.int .i64 1,.slice none 0 0] X
def R22(v:Value)(X:World):Prop:=∃bc b1 b2,v= .slice (some ⟨bc,0,none⟩) 2 2/\Cs bc (aaf (alk b1 b2)) X/\Cs b1 [.int .i64 (-1),.slice none 0 0] X/\Cs b2 [.int .i64 1,.slice none 0 0] X
theorem R13.bl{h:Int}{v:Value}{X Y:World}(H:R13 h v X)(hb:Below X.heap.size X Y):R13 h v Y:=by obtain⟨b,rfl,h1⟩:=H;exact⟨b,rfl,h1.bl hb⟩
theorem R14.bl{h:Int}{v:Value}{X Y:World}(H:R14 h v X)(hb:Below X.heap.size X Y):R14 h v Y:=by obtain⟨b,rfl,h1⟩:=H;exact⟨b,rfl,h1.bl hb⟩
theorem R18.bl{v:Value}{X Y:World}(H:R18 v X)(hb:Below X.heap.size X Y):R18 v Y:=by obtain⟨b1,b2,rfl,h1,h2⟩:=H;exact⟨b1,b2,rfl,h1.bl hb,h2.bl hb⟩
theorem R22.bl{v:Value}{X Y:World}(H:R22 v X)(hb:Below X.heap.size X Y):R22 v Y:=by obtain⟨bc,b1,b2,rfl,h0,h1,h2⟩:=H;exact⟨bc,b1,b2,rfl,h0.bl hb,h1.bl hb,h2.bl hb⟩
structure F12 (w4:World) (L:Nat->Bool) (v3 v12 v13 v14 v15 v16 v17 v18 v19 v20 v21 v22:Value) (X:World):Prop where
 b:Below w4.heap.size w4 X
 f0:L 0=true->v12=tm (-1) none 0 0
 f1:L 1=true->R13 (-1) v13 X
 f2:L 2=true->R14 (-1) v14 X
 f3:L 3=true->v15=tm 1 none 0 0
 f4:L 4=true->R13 1 v16 X
 f5:L 5=true->R14 1 v17 X
 f6:L 6=true->R18 v18 X
 f7:L 7=true->v19=tm (-1) none 0 0
 f8:L 8=true->v20=tm 2 none 0 0
 f9:L 9=true->v21= .agg #[.bool false,.int .i64 (-1),.slice none 0 0,.int .i64 2,.slice none 0 0]
 f10:L 10=true->R22 v22 X
 f11:L 11=true->R22 v3 X
theorem F12.bl{w4:World}{L:Nat->Bool}{v3 v12 v13 v14 v15 v16 v17 v18 v19 v20 v21 v22:Value}{X Y:World}(H:F12 w4 L v3 v12 v13 v14 v15 v16 v17 v18 v19 v20 v21 v22 X)(hb:Below X.heap.size X Y):F12 w4 L v3 v12 v13 v14 v15 v16 v17 v18 v19 v20 v21 v22 Y:=
 ⟨H.b.trans (hb.mono H.b.size),H.f0,fun h=>(H.f1 h).bl hb,fun h=>(H.f2 h).bl hb,H.f3,fun h=>(H.f4 h).bl hb,fun h=>(H.f5 h).bl hb,fun h=>(H.f6 h).bl hb,H.f7,H.f8,H.f9,fun h=>(H.f10 h).bl hb,fun h=>(H.f11 h).bl hb⟩
def I12(w4:World)(ba bx:Nat)(L:Array Bool)(a:Act)(X:World):Prop:=L.size=12/\∃v3 v12 v13 v14 v15 v16 v17 v18 v19 v20 v21 v22:Value,a={ tmps:=#[.bool false,.pointer (some ⟨ba,0,none⟩),.pointer (some ⟨bx,0,none⟩),v3,undef,undef,undef,undef,undef,undef,tm 1 none 0 0,tm (-1) none 0 0,v12,v13,v14,v15,v16,v17,v18,v19,v20,v21,v22,undef,undef,undef,undef,undef,undef,undef,undef,undef,undef,undef,undef,undef,undef,undef,undef,undef,undef,undef,undef,undef,undef,undef,undef,undef,undef,undef,undef,undef,undef,undef,undef,undef,undef,undef,undef,undef,undef,undef,undef,undef,undef,undef,undef,undef,undef,undef,undef,undef,undef],defers:=[]}/\F12 w4 (fun i=>L.getD i false) v3 v12 v13 v14 v15 v16 v17 v18 v19 v20 v21 v22 X
theorem abE{o:Oper}{L:Array Bool}(h:o.after.all (fun e=> !Region.binds .any e||L.getD e.on false)=true){e:Edge}(he:e∈o.after)(hb:Region.binds .any e=true):L.getD e.on false=true:=by
 have:=Array.all_eq_true_iff_forall_mem.1 h e he;rw[hb] at this;simpa using this
theorem abt{L:Array Bool}{i j:Nat}(hi:i<L.size):(L.setIfInBounds i true).getD j false=(if j=i then true else L.getD j false):=by
 simp only[Array.getD_eq_getD_getElem?,Array.getElem?_setIfInBounds];by_cases h:i=j
 ·subst h;simp[hi]
 ·rw[if_neg h,if_neg (fun e=>h e.symm)]
theorem aow(HE:asg)(HF:ash)(w:World):Calls Tryz.prog 10 #[] w fun e w'=>e= .returned (.bool true)/\Below w.heap.size w w':=by
 have V0:=ae (fun(W:World)=>show Calls Tryz.prog 33 #[.int .i64 0] W fun e w'=>e= .returned (tm (-1) none 0 0)/\Below W.heap.size W w' from anD 0 W (by decide) (by decide));have HEQ:=ae HE;have HFA:=ae HF;clear HE HF;go_enter Tryz.func10,Tryz.ntmps10
 go_wp2_with fail
 refine(af4 1 none 0 0 _).mono ?_;rintro e w1 ⟨rfl,hb1⟩;have D1:=ae (aai.below hb1);clear hb1
 go_wp2_with fail
 have D2:=ae (D1.out.pushC (ag _ _) #[.int .i64 1,.slice none 0 0] 60);generalize w1.alloc (.cells #[.int .i64 1,.slice none 0 0] 60)=w2 at D2 ⊢;generalize w1.heap.size=ba at D2 ⊢;refine(V0.out _).mono ?_;rintro e w3 ⟨rfl,hb3⟩;have D3:=ae (D2.out.mv hb3);clear hb3 D1 D2
 go_upto_region 3 with fail
 have D4:=ae (D3.out.pushC (ag _ _) #[.int .i64 (-1),.slice none 0 0] 60);generalize w3.alloc (.cells #[.int .i64 (-1),.slice none 0 0] 60)=w4 at D4 ⊢;generalize w3.heap.size=bx at D4 ⊢;clear D3;obtain⟨⟨hbx,hxc⟩,⟨hba,hac⟩,_⟩:=D4.out.now;have f0:w4.cell? ⟨ba,0,none⟩=some (.int .i64 1):=hac 0 _ rfl;have f1:w4.cell? ⟨ba,1,none⟩=some (.slice none 0 0):=hac 1 _ rfl;have g0:w4.cell? ⟨bx,0,none⟩=some (.int .i64 (-1)):=hxc 0 _ rfl;have g1:w4.cell? ⟨bx,1,none⟩=some (.slice none 0 0):=hxc 1 _ rfl;clear hxc hac;have HD4:=ae D4.out;refine ajM (by kernel_rfl) (I12 w4 ba bx) ⟨by simp,undef,undef,undef,undef,undef,undef,undef,undef,undef,undef,undef,undef,rfl,⟨(ag _ _).drew,by simp,by simp,by simp,by simp,by simp,by simp,by simp,by simp,by simp,by simp,by simp,by simp⟩⟩ ?steps ?rest
 case steps=>
  intro L i a X hI hi;obtain⟨hls,v3,v12,v13,v14,v15,v16,v17,v18,v19,v20,v21,v22,rfl,H⟩:=hI;obtain⟨hl,o,ho,ha⟩:=ahb hi;clear hi;have e0:X.cell? ⟨ba,0,none⟩=some (.int .i64 1):=(H.b.cell (p:=⟨ba,0,none⟩) hba).trans f0;have e1:X.cell? ⟨ba,1,none⟩=some (.slice none 0 0):=(H.b.cell (p:=⟨ba,1,none⟩) hba).trans f1;have e2:X.cell? ⟨bx,0,none⟩=some (.int .i64 (-1)):=(H.b.cell (p:=⟨bx,0,none⟩) hbx).trans g0;have e3:X.cell? ⟨bx,1,none⟩=some (.slice none 0 0):=(H.b.cell (p:=⟨bx,1,none⟩) hbx).trans g1;clear f0 f1 g0 g1
  match i,ho with
  |0,ho=>
   cases ho;have hp:∀j,j≠0->(L.setIfInBounds 0 true).getD j false=L.getD j false:=fun j hj=>by rw[abt (by omega),if_neg hj]
   refine wpOp_step rfl (fun K hK=> ?_);go_simp;exact hK _ _ ⟨by simpa using hls,_,_,_,_,_,_,_,_,_,_,_,_,rfl,⟨H.b,fun _=>rfl,fun h=>H.f1 ((hp 1 (by decide)).symm.trans h),fun h=>H.f2 ((hp 2 (by decide)).symm.trans h),fun h=>H.f3 ((hp 3 (by decide)).symm.trans h),fun h=>H.f4 ((hp 4 (by decide)).symm.trans h),fun h=>H.f5 ((hp 5 (by decide)).symm.trans h),fun h=>H.f6 ((hp 6 (by decide)).symm.trans h),fun h=>H.f7 ((hp 7 (by decide)).symm.trans h),fun h=>H.f8 ((hp 8 (by decide)).symm.trans h),fun h=>H.f9 ((hp 9 (by decide)).symm.trans h),fun h=>H.f10 ((hp 10 (by decide)).symm.trans h),fun h=>H.f11 ((hp 11 (by decide)).symm.trans h)⟩⟩
  |1,ho=>
   cases ho;have hp:∀j,j≠1->(L.setIfInBounds 1 true).getD j false=L.getD j false:=fun j hj=>by rw[abt (by omega),if_neg hj]
   have q0:=abE ha (e:=⟨0,.data⟩) (by simp) rfl;obtain rfl:=H.f0 q0;refine wpOp_step rfl (fun K hK=> ?_);go_simp;have H2:=H.bl ((ag _ X).alloc (af _) (.cells #[.int .i64 (-1),.slice none 0 0] 60));exact hK _ _ ⟨by simpa using hls,_,_,_,_,_,_,_,_,_,_,_,_,rfl,⟨H2.b,fun h=>H2.f0 ((hp 0 (by decide)).symm.trans h),fun _=>⟨_,rfl,Cs.new' rfl⟩,fun h=>H2.f2 ((hp 2 (by decide)).symm.trans h),fun h=>H2.f3 ((hp 3 (by decide)).symm.trans h),fun h=>H2.f4 ((hp 4 (by decide)).symm.trans h),fun h=>H2.f5 ((hp 5 (by decide)).symm.trans h),fun h=>H2.f6 ((hp 6 (by decide)).symm.trans h),fun h=>H2.f7 ((hp 7 (by decide)).symm.trans h),fun h=>H2.f8 ((hp 8 (by decide)).symm.trans h),fun h=>H2.f9 ((hp 9 (by decide)).symm.trans h),fun h=>H2.f10 ((hp 10 (by decide)).symm.trans h),fun h=>H2.f11 ((hp 11 (by decide)).symm.trans h)⟩⟩
  |2,ho=>
   cases ho;have hp:∀j,j≠2->(L.setIfInBounds 2 true).getD j false=L.getD j false:=fun j hj=>by rw[abt (by omega),if_neg hj]
   have q1:=abE ha (e:=⟨1,.data⟩) (by simp) rfl;obtain⟨b,rfl,hc⟩:=H.f1 q1;refine wpOp_step rfl (fun K hK=> ?_);go_simp
   go_at_call 32
   refine(af4 3 (some ⟨b,0,none⟩) 1 1 _).mono ?_;rintro e Y ⟨rfl,hY⟩;go_simp;have H2:=H.bl hY;exact hK _ _ ⟨by simpa using hls,_,_,_,_,_,_,_,_,_,_,_,_,rfl,⟨H2.b,fun h=>H2.f0 ((hp 0 (by decide)).symm.trans h),fun h=>H2.f1 ((hp 1 (by decide)).symm.trans h),fun _=>⟨b,rfl,hc.bl hY⟩,fun h=>H2.f3 ((hp 3 (by decide)).symm.trans h),fun h=>H2.f4 ((hp 4 (by decide)).symm.trans h),fun h=>H2.f5 ((hp 5 (by decide)).symm.trans h),fun h=>H2.f6 ((hp 6 (by decide)).symm.trans h),fun h=>H2.f7 ((hp 7 (by decide)).symm.trans h),fun h=>H2.f8 ((hp 8 (by decide)).symm.trans h),fun h=>H2.f9 ((hp 9 (by decide)).symm.trans h),fun h=>H2.f10 ((hp 10 (by decide)).symm.trans h),fun h=>H2.f11 ((hp 11 (by decide)).symm.trans h)⟩⟩
  |3,ho=>
   cases ho;have hp:∀j,j≠3->(L.setIfInBounds 3 true).getD j false=L.getD j false:=fun j hj=>by rw[abt (by omega),if_neg hj]
   refine wpOp_step rfl (fun K hK=> ?_);go_simp;exact hK _ _ ⟨by simpa using hls,_,_,_,_,_,_,_,_,_,_,_,_,rfl,⟨H.b,fun h=>H.f0 ((hp 0 (by decide)).symm.trans h),fun h=>H.f1 ((hp 1 (by decide)).symm.trans h),fun h=>H.f2 ((hp 2 (by decide)).symm.trans h),fun _=>rfl,fun h=>H.f4 ((hp 4 (by decide)).symm.trans h),fun h=>H.f5 ((hp 5 (by decide)).symm.trans h),fun h=>H.f6 ((hp 6 (by decide)).symm.trans h),fun h=>H.f7 ((hp 7 (by decide)).symm.trans h),fun h=>H.f8 ((hp 8 (by decide)).symm.trans h),fun h=>H.f9 ((hp 9 (by decide)).symm.trans h),fun h=>H.f10 ((hp 10 (by decide)).symm.trans h),fun h=>H.f11 ((hp 11 (by decide)).symm.trans h)⟩⟩
  |4,ho=>
   cases ho;have hp:∀j,j≠4->(L.setIfInBounds 4 true).getD j false=L.getD j false:=fun j hj=>by rw[abt (by omega),if_neg hj]
   have q3:=abE ha (e:=⟨3,.data⟩) (by simp) rfl;obtain rfl:=H.f3 q3;refine wpOp_step rfl (fun K hK=> ?_);go_simp;have H2:=H.bl ((ag _ X).alloc (af _) (.cells #[.int .i64 1,.slice none 0 0] 60));exact hK _ _ ⟨by simpa using hls,_,_,_,_,_,_,_,_,_,_,_,_,rfl,⟨H2.b,fun h=>H2.f0 ((hp 0 (by decide)).symm.trans h),fun h=>H2.f1 ((hp 1 (by decide)).symm.trans h),fun h=>H2.f2 ((hp 2 (by decide)).symm.trans h),fun h=>H2.f3 ((hp 3 (by decide)).symm.trans h),fun _=>⟨_,rfl,Cs.new' rfl⟩,fun h=>H2.f5 ((hp 5 (by decide)).symm.trans h),fun h=>H2.f6 ((hp 6 (by decide)).symm.trans h),fun h=>H2.f7 ((hp 7 (by decide)).symm.trans h),fun h=>H2.f8 ((hp 8 (by decide)).symm.trans h),fun h=>H2.f9 ((hp 9 (by decide)).symm.trans h),fun h=>H2.f10 ((hp 10 (by decide)).symm.trans h),fun h=>H2.f11 ((hp 11 (by decide)).symm.trans h)⟩⟩
  |5,ho=>
   cases ho;have hp:∀j,j≠5->(L.setIfInBounds 5 true).getD j false=L.getD j false:=fun j hj=>by rw[abt (by omega),if_neg hj]
   have q4:=abE ha (e:=⟨4,.data⟩) (by simp) rfl;obtain⟨b,rfl,hc⟩:=H.f4 q4;refine wpOp_step rfl (fun K hK=> ?_);go_simp
   go_at_call 32
   refine(af4 3 (some ⟨b,0,none⟩) 1 1 _).mono ?_;rintro e Y ⟨rfl,hY⟩;go_simp;have H2:=H.bl hY;exact hK _ _ ⟨by simpa using hls,_,_,_,_,_,_,_,_,_,_,_,_,rfl,⟨H2.b,fun h=>H2.f0 ((hp 0 (by decide)).symm.trans h),fun h=>H2.f1 ((hp 1 (by decide)).symm.trans h),fun h=>H2.f2 ((hp 2 (by decide)).symm.trans h),fun h=>H2.f3 ((hp 3 (by decide)).symm.trans h),fun h=>H2.f4 ((hp 4 (by decide)).symm.trans h),fun _=>⟨b,rfl,hc.bl hY⟩,fun h=>H2.f6 ((hp 6 (by decide)).symm.trans h),fun h=>H2.f7 ((hp 7 (by decide)).symm.trans h),fun h=>H2.f8 ((hp 8 (by decide)).symm.trans h),fun h=>H2.f9 ((hp 9 (by decide)).symm.trans h),fun h=>H2.f10 ((hp 10 (by decide)).symm.trans h),fun h=>H2.f11 ((hp 11 (by decide)).symm.trans h)⟩⟩
  |6,ho=>
   cases ho;have hp:∀j,j≠6->(L.setIfInBounds 6 true).getD j false=L.getD j false:=fun j hj=>by rw[abt (by omega),if_neg hj]
   have q2:=abE ha (e:=⟨2,.data⟩) (by simp) rfl;have q5:=abE ha (e:=⟨5,.data⟩) (by simp) rfl;obtain⟨b1,rfl,hc1⟩:=H.f2 q2;obtain⟨b2,rfl,hc2⟩:=H.f5 q5;refine wpOp_step rfl (fun K hK=> ?_);go_simp;exact hK _ _ ⟨by simpa using hls,_,_,_,_,_,_,_,_,_,_,_,_,rfl,⟨H.b,fun h=>H.f0 ((hp 0 (by decide)).symm.trans h),fun h=>H.f1 ((hp 1 (by decide)).symm.trans h),fun h=>H.f2 ((hp 2 (by decide)).symm.trans h),fun h=>H.f3 ((hp 3 (by decide)).symm.trans h),fun h=>H.f4 ((hp 4 (by decide)).symm.trans h),fun h=>H.f5 ((hp 5 (by decide)).symm.trans h),fun _=>⟨b1,b2,rfl,hc1,hc2⟩,fun h=>H.f7 ((hp 7 (by decide)).symm.trans h),fun h=>H.f8 ((hp 8 (by decide)).symm.trans h),fun h=>H.f9 ((hp 9 (by decide)).symm.trans h),fun h=>H.f10 ((hp 10 (by decide)).symm.trans h),fun h=>H.f11 ((hp 11 (by decide)).symm.trans h)⟩⟩
  |7,ho=>
   cases ho;have hp:∀j,j≠7->(L.setIfInBounds 7 true).getD j false=L.getD j false:=fun j hj=>by rw[abt (by omega),if_neg hj]
   refine wpOp_step rfl (fun K hK=> ?_);go_simp;exact hK _ _ ⟨by simpa using hls,_,_,_,_,_,_,_,_,_,_,_,_,rfl,⟨H.b,fun h=>H.f0 ((hp 0 (by decide)).symm.trans h),fun h=>H.f1 ((hp 1 (by decide)).symm.trans h),fun h=>H.f2 ((hp 2 (by decide)).symm.trans h),fun h=>H.f3 ((hp 3 (by decide)).symm.trans h),fun h=>H.f4 ((hp 4 (by decide)).symm.trans h),fun h=>H.f5 ((hp 5 (by decide)).symm.trans h),fun h=>H.f6 ((hp 6 (by decide)).symm.trans h),fun _=>rfl,fun h=>H.f8 ((hp 8 (by decide)).symm.trans h),fun h=>H.f9 ((hp 9 (by decide)).symm.trans h),fun h=>H.f10 ((hp 10 (by decide)).symm.trans h),fun h=>H.f11 ((hp 11 (by decide)).symm.trans h)⟩⟩
  |8,ho=>
   cases ho;have hp:∀j,j≠8->(L.setIfInBounds 8 true).getD j false=L.getD j false:=fun j hj=>by rw[abt (by omega),if_neg hj]
   refine wpOp_step rfl (fun K hK=> ?_);go_simp
   go_at_call 32
   refine(af4 2 none 0 0 _).mono ?_;rintro e Y ⟨rfl,hY⟩;go_simp;have H2:=H.bl hY;exact hK _ _ ⟨by simpa using hls,_,_,_,_,_,_,_,_,_,_,_,_,rfl,⟨H2.b,fun h=>H2.f0 ((hp 0 (by decide)).symm.trans h),fun h=>H2.f1 ((hp 1 (by decide)).symm.trans h),fun h=>H2.f2 ((hp 2 (by decide)).symm.trans h),fun h=>H2.f3 ((hp 3 (by decide)).symm.trans h),fun h=>H2.f4 ((hp 4 (by decide)).symm.trans h),fun h=>H2.f5 ((hp 5 (by decide)).symm.trans h),fun h=>H2.f6 ((hp 6 (by decide)).symm.trans h),fun h=>H2.f7 ((hp 7 (by decide)).symm.trans h),fun _=>rfl,fun h=>H2.f9 ((hp 9 (by decide)).symm.trans h),fun h=>H2.f10 ((hp 10 (by decide)).symm.trans h),fun h=>H2.f11 ((hp 11 (by decide)).symm.trans h)⟩⟩
  |9,ho=>
   cases ho;have hp:∀j,j≠9->(L.setIfInBounds 9 true).getD j false=L.getD j false:=fun j hj=>by rw[abt (by omega),if_neg hj]
   have q7:=abE ha (e:=⟨7,.data⟩) (by simp) rfl;have q8:=abE ha (e:=⟨8,.data⟩) (by simp) rfl;obtain rfl:=H.f7 q7;obtain rfl:=H.f8 q8;refine wpOp_step rfl (fun K hK=> ?_);go_simp;exact hK _ _ ⟨by simpa using hls,_,_,_,_,_,_,_,_,_,_,_,_,rfl,⟨H.b,fun h=>H.f0 ((hp 0 (by decide)).symm.trans h),fun h=>H.f1 ((hp 1 (by decide)).symm.trans h),fun h=>H.f2 ((hp 2 (by decide)).symm.trans h),fun h=>H.f3 ((hp 3 (by decide)).symm.trans h),fun h=>H.f4 ((hp 4 (by decide)).symm.trans h),fun h=>H.f5 ((hp 5 (by decide)).symm.trans h),fun h=>H.f6 ((hp 6 (by decide)).symm.trans h),fun h=>H.f7 ((hp 7 (by decide)).symm.trans h),fun h=>H.f8 ((hp 8 (by decide)).symm.trans h),fun _=>rfl,fun h=>H.f10 ((hp 10 (by decide)).symm.trans h),fun h=>H.f11 ((hp 11 (by decide)).symm.trans h)⟩⟩
  |10,ho=>
   cases ho;have hp:∀j,j≠10->(L.setIfInBounds 10 true).getD j false=L.getD j false:=fun j hj=>by rw[abt (by omega),if_neg hj]
   have q6:=abE ha (e:=⟨6,.data⟩) (by simp) rfl;have q9:=abE ha (e:=⟨9,.data⟩) (by simp) rfl;obtain⟨b1,b2,rfl,hc1,hc2⟩:=H.f6 q6;obtain rfl:=H.f9 q9;refine wpOp_step rfl (fun K hK=> ?_);go_simp;have H2:=H.bl ((ag _ X).alloc (af _) (.cells #[.bool true,.int .i64 3,.slice (some ⟨b1,0,none⟩) 1 1,.int .i64 3,.slice (some ⟨b2,0,none⟩) 1 1,.bool false,.int .i64 (-1),.slice none 0 0,.int .i64 2,.slice none 0 0] 62));exact hK _ _ ⟨by simpa using hls,_,_,_,_,_,_,_,_,_,_,_,_,rfl,⟨H2.b,fun h=>H2.f0 ((hp 0 (by decide)).symm.trans h),fun h=>H2.f1 ((hp 1 (by decide)).symm.trans h),fun h=>H2.f2 ((hp 2 (by decide)).symm.trans h),fun h=>H2.f3 ((hp 3 (by decide)).symm.trans h),fun h=>H2.f4 ((hp 4 (by decide)).symm.trans h),fun h=>H2.f5 ((hp 5 (by decide)).symm.trans h),fun h=>H2.f6 ((hp 6 (by decide)).symm.trans h),fun h=>H2.f7 ((hp 7 (by decide)).symm.trans h),fun h=>H2.f8 ((hp 8 (by decide)).symm.trans h),fun h=>H2.f9 ((hp 9 (by decide)).symm.trans h),fun _=>⟨_,b1,b2,rfl,(abR X (aaf (alk b1 b2)).toArray 62).now,hc1.al _,hc2.al _⟩,fun h=>H2.f11 ((hp 11 (by decide)).symm.trans h)⟩⟩
  |11,ho=>
   cases ho;have hp:∀j,j≠11->(L.setIfInBounds 11 true).getD j false=L.getD j false:=fun j hj=>by rw[abt (by omega),if_neg hj]
   have q10:=abE ha (e:=⟨10,.data⟩) (by simp) rfl;obtain⟨bc,b1,b2,rfl,hcc,hc1,hc2⟩:=H.f10 q10;refine wpOp_step rfl (fun K hK=> ?_);go_simp;exact hK _ _ ⟨by simpa using hls,_,_,_,_,_,_,_,_,_,_,_,_,rfl,⟨H.b,fun h=>H.f0 ((hp 0 (by decide)).symm.trans h),fun h=>H.f1 ((hp 1 (by decide)).symm.trans h),fun h=>H.f2 ((hp 2 (by decide)).symm.trans h),fun h=>H.f3 ((hp 3 (by decide)).symm.trans h),fun h=>H.f4 ((hp 4 (by decide)).symm.trans h),fun h=>H.f5 ((hp 5 (by decide)).symm.trans h),fun h=>H.f6 ((hp 6 (by decide)).symm.trans h),fun h=>H.f7 ((hp 7 (by decide)).symm.trans h),fun h=>H.f8 ((hp 8 (by decide)).symm.trans h),fun h=>H.f9 ((hp 9 (by decide)).symm.trans h),fun h=>H.f10 ((hp 10 (by decide)).symm.trans h),fun _=>⟨bc,b1,b2,rfl,hcc,hc1,hc2⟩⟩⟩
  |i+12,ho=>exact(by cases ho)
 case rest=>
  intro L a w5 hI hr;obtain⟨hls,v3,v12,v13,v14,v15,v16,v17,v18,v19,v20,v21,v22,rfl,H⟩:=hI;obtain⟨bc,b1,b2,rfl,hcc,hc1,hc2⟩:=H.f11 (aiD hls (by kernel_rfl) hr 12 11 (by omega) (by show 11<12;omega));have hB:=H.b;clear hr hls
  have D5:=ae (show aai (fun X=>aaV X.heap.size X (alk b1 b2) (some ⟨bc,0,none⟩) 2/\Cs ba [.int .i64 1,.slice none 0 0] X/\Below w.heap.size w X) w5 from fun X hX=>
   ⟨auS (hcc.bl hX) (hc1.bl hX) (hc2.bl hX),(D4.out X (hB.trans (hX.mono hB.size))).2⟩)
  have M1:=ae (fun(bg:Nat) (W:World) (hG:aaX W.heap.size W g12 (some ⟨bg,0,none⟩) 4) (hP:aaV W.heap.size W (alk b1 b2) (some ⟨bc,0,none⟩) 2)=>(by
   have h:=HEQ.out g12 (alk b1 b2) 1 (ats b1 b2) W.heap.size (some ⟨bg,0,none⟩) 4 (some ⟨bc,0,none⟩) 2 W (af _) (by decide) hG hP;rw[show t3s (alk b1 b2)=c12 from rfl,aw9.1,aw9.2,au7.2] at h;exact h:Calls Tryz.prog 8 #[.slice (some ⟨bg,0,none⟩) 4 4,.slice (some ⟨bc,0,none⟩) 2 2,.int .i64 1] W (am2 [⟨[⟨false,A12,B12⟩],0,-1,[],S12⟩] 0 0 W)))
  have M2:=ae (fun(bg:Nat) (W:World) (hG:aaX W.heap.size W g12 (some ⟨bg,0,none⟩) 4) (hP:aaV W.heap.size W (alk b1 b2) (some ⟨bc,0,none⟩) 2)=>(by
   have h:=HFA.out g12 (alk b1 b2) 1 (ats b1 b2) W.heap.size (some ⟨bg,0,none⟩) 4 (some ⟨bc,0,none⟩) 2 W (af _) (by decide) hG hP;rw[show t3s (alk b1 b2)=c12 from rfl,axb.1,axb.2,au7.2] at h;exact h:Calls Tryz.prog 12 #[.slice (some ⟨bg,0,none⟩) 4 4,.slice (some ⟨bc,0,none⟩) 2 2,.int .i64 1] W (am2 [] 0 0 W)))
  clear hcc hc1 hc2 hB D4 f0 f1 g0 g1 hba hbx V0 HEQ HFA H HD4
  go_wp2_with fail
  refine(ak7 w5).mono ?_;rintro e w6 ⟨bg,rfl,hb,LG⟩;have HG:=ae LG.now;have D6:=ae (D5.out.mv hb);clear hb LG D5
  go_wp2_with fail
  refine(M1.out bg w6 HG.out D6.out.now.1).mono ?_;rintro e w7 ⟨G1,q1,k1,hg1,hq1,rfl,hG1,hb⟩;have D7:=ae ((D6.out.mv hb).and (adN hG1));have HG1:=ae hg1;clear hb D6 HG M1 hG1 hg1 hq1
  go_wp2_with fail
  refine(ak7 w7).mono ?_;rintro e w8 ⟨bg2,rfl,hb,LG⟩;have HG:=ae LG.now;have D8:=ae (D7.out.mv hb);clear hb LG D7
  go_wp2_with fail
  refine(M2.out bg2 w8 HG.out D8.out.now.2.1).mono ?_;rintro e w9 ⟨G2,q2,k2,hg2,hq2,rfl,hG2,hb⟩;have D9:=ae (D8.out.mv hb);have hl2:G2.length=0:=by rw[acj hg2];rfl
  have hl1:G1.length=1:=by rw[acj HG1.out];rfl
  rw[hl1,hl2];clear hb D8 HG M2 hG2 hg2 hq2 hl2;obtain⟨bk,ok,x,rfl,hbk,hx,⟨e0,_⟩,hxv⟩:=D9.out.now.1.elem (i:=0) (by omega)
  have hxP:t3s x.P=[⟨false,A12,B12⟩]:=by
   have h:=aul hx;rw[HG1.out] at h;have h2:x.gp=⟨[⟨false,A12,B12⟩],0,-1,[],S12⟩:=(Option.some.inj h).symm;have:=congrArg Gp.c h2;exact this
  have hxl:x.P.length=1:=by have h:=congrArg List.length hxP;simpa[t3s] using h
  rw[hxl] at e0;simp only[Nat.zero_mul,Nat.add_zero] at e0;obtain⟨_,_,⟨hba,hac⟩,hbw⟩:=D9.out.now;have f0:w9.cell? ⟨ba,0,none⟩=some (.int .i64 1):=hac 0 _ rfl;have f1:w9.cell? ⟨ba,1,none⟩=some (.slice none 0 0):=hac 1 _ rfl;have HBW:=ae hbw
  have hxs:∀y∈x.P,y.sz:=fun y hy=>by
   have hm:y.t3∈t3s x.P:=List.mem_map.2 ⟨y,hy,rfl⟩;rw[hxP] at hm;have e:=List.mem_singleton.1 hm;have e1:y.l=A12:=congrArg Lt3.l e;have e2:y.r=B12:=congrArg Lt3.r e;exact⟨by rw[e1];simp[A12,T.size,T.sizes],by rw[e2];simp[B12,T.size,T.sizes]⟩
  have M3:=ae (fun(u:World) (hu:Below w9.heap.size w9 u)=>show Calls Tryz.prog 22 #[.slice x.pc 1 x.cc,.slice (some ⟨u.heap.size,0,none⟩) 1 1] (u.alloc (.cells #[.bool false,.int .i64 1,.slice none 0 0,.int .i64 2,.slice none 0 0] 62)) (fun e w'=>e= .returned (.bool true)/\Below w9.heap.size w9 w') from by
   have hal:Below w9.heap.size w9 (u.alloc (.cells #[.bool false,.int .i64 1,.slice none 0 0,.int .i64 2,.slice none 0 0] 62)):=hu.alloc hu.size _;have h:=aef x.P [awF] hxP hxs _ x.pc x.cc (some ⟨u.heap.size,0,none⟩) 1 _ (af _) ((hxv.cl.below hal).mono hal.size) (auT (abR u (aaf [awF]).toArray 62).now);rw[hxl] at h;refine Calls.mono h ?_;rintro e w' ⟨he,hb⟩;exact⟨he,hal.trans (hb.mono hal.size)⟩)
  have KS:=ae (show ∀W,Below w9.heap.size w9 W->(W.cell? ⟨bk,ok,none⟩=some (.slice x.pc 1 x.cc)/\W.cell? ⟨ba,0,none⟩=some (.int .i64 1)/\W.cell? ⟨ba,1,none⟩=some (.slice none 0 0))/\Below w9.heap.size w9 W from fun W hW=>
   ⟨⟨(hW.cell (p:=⟨bk,ok,none⟩) hbk).trans e0,(hW.cell (p:=⟨ba,0,none⟩) hba).trans f0,(hW.cell (p:=⟨ba,1,none⟩) hba).trans f1⟩,hW⟩)
  clear D9 hxv hxP hxl hx hxs hac hbw HG1 hl1
  go_upto_region 6 with fail
  go_cut [0] from 37 to 72 (fun v0 wx=>v0= .bool true/\Below w9.heap.size w9 wx)
  case first=>
   refine wp_region_noPanic ?_
   go_region_held3 (fun w'=>(w'.cell? ⟨bk,ok,none⟩=some (.slice x.pc 1 x.cc)/\w'.cell? ⟨ba,0,none⟩=some (.int .i64 1)/\w'.cell? ⟨ba,1,none⟩=some (.slice none 0 0))/\Below w9.heap.size w9 w')
    (first
     |with_reducible exact KS.out _ (ag _ _)
     |with_reducible exact KS.out _ (ag _ _).drew
     |with_reducible exact KS.out _ hB1
     |with_reducible exact KS.out _ (axm hB1 _)
     |with_reducible exact KS.out _ hB2)
    (first
     |(go_at_call 32;with_reducible refine(af4 2 none 0 0 _).mono ?_;rintro e u1 ⟨rfl,h1⟩;have hB1:Below w9.heap.size w9 u1:=(‹_/\Below w9.heap.size w9 _›.2).trans (h1.mono (‹_/\Below w9.heap.size w9 _›.2).size))
     |(go_at_call 22;with_reducible refine(M3.out u1 hB1).mono ?_;rintro e u2 ⟨rfl,hB2⟩))
   all_goals
    refine NoPanic.normal ?_;go_wp2
    go_meet
    exact⟨rfl,hB2⟩
  case rest=>
   obtain⟨rfl,hB⟩:=hcut;have HQ:=ae (HBW.out.trans (hB.mono HBW.out.size));clear hB;go_wp2;go_ret;exact⟨rfl,HQ.out⟩
def auU:Prop:=∀w:World,Calls Tryz.prog 10 #[] w fun e w'=>e= .returned (.bool true)/\Below w.heap.size w w'
theorem att{n:Nat}{W:World}{G:List GV}{a:Option Addr}{c:Nat}(h:ahl n W G a c){x:GV}(hx:x∈G):ans n W x:=by
 rcases h.2.2 with rfl|⟨b,o,_,_,h⟩
 ·cases hx
 ·obtain⟨j,hj⟩:=au hx;exact(h j x hj).2
theorem aqI{D:List LV}(h:∀x∈t3s D,x.l.size<=400/\x.r.size<=400):∀x∈D,x.sz:=fun x hx=>by
 obtain⟨h1,h2⟩:=h x.t3 (List.mem_map.2 ⟨x,hx,rfl⟩);have h1':x.l.size<=400:=h1;have h2':x.r.size<=400:=h2;exact⟨by omega,by omega⟩
theorem awp{P:List LV}(h:(t3s P).length<=32):P.length<=1000000:=by
 have:(t3s P).length=P.length:=by simp[t3s]
 omega
end Go.Proofs.YtabfapijgfjflaaGreat
