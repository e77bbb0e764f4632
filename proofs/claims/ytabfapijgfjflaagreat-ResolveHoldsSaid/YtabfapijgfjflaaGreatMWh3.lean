import Derived.Test.YtabfapijgfjflaaGreatMWh2
import Derived.Test.YtabfapijgfjflaaGreatMAl
set_option linter.unusedVariables false
set_option linter.unusedSimpArgs false
set_option maxRecDepth 100000
set_option maxHeartbeats 8000000
namespace Go.Proofs.YtabfapijgfjflaaGreat
open Go.RowKit
def afi(z:Int):List Int->Int->List Int->List Int×Int
 |[],n,f=>(f,n)
 |v::vs,n,f=>afi z vs (n/z) (f.set v.toNat (n%z))
theorem ald(z:Int)(v:Int):∀(vs:List Int) (n:Int) (f:List Int),afi z (vs++[v]) n f=((afi z vs n f).1.set v.toNat ((afi z vs n f).2%z),(afi z vs n f).2/z)
 |[],n,f=>rfl
 |u::vs,n,f=>by
  rw[List.cons_append,afi,afi];exact ald z v vs _ _
theorem aq1{z:Int}(hz:1<=z):∀(vs:List Int) (n:Int) (f:List Int),0<=n->(afi z vs n f).2<=n
 |[],n,f,_=>Int.le_refl _
 |v::vs,n,f,h=>by
  rw[afi];have h1:0<=n/z:=Int.ediv_nonneg h (by omega);have h2:n/z<=n:=Int.ediv_le_self z h;exact Int.le_trans (aq1 hz vs _ _ h1) h2
theorem aq2{m:Ip}(hz:1<=m.size):∀(vs:List Int) (n:Int) (f:List Int),0<=n->okF m f->okF m (afi m.size vs n f).1/\0<=(afi m.size vs n f).2
 |[],n,f,h0,hf=>⟨hf,h0⟩
 |v::vs,n,f,h0,hf=>by
  rw[afi];refine aq2 hz vs _ _ (Int.ediv_nonneg h0 (by omega)) ⟨by rw[List.length_set];exact hf.1,fun u hu=> ?_⟩
  rcases List.mem_or_eq_of_mem_set hu with hu|rfl
  ·exact hf.2 u hu
  ·exact⟨Int.emod_nonneg _ (by omega),Int.emod_lt_of_pos _ (by omega)⟩
theorem aiF(z:Int)(v:Int):∀(vs:List Int) (n:Int) (f:List Int),(∀u∈vs,u.toNat≠v.toNat)->(afi z vs n f).1.getD v.toNat 0=f.getD v.toNat 0
 |[],n,f,_=>rfl
 |u::vs,n,f,h=>by
  rw[afi,aiF z v vs _ _ fun x hx=>h x (aH _ hx)];rw[List.getD_eq_getElem?_getD,List.getElem?_set_ne (h u (List.mem_cons_self ..)),←List.getD_eq_getElem?_getD]
def amn(z:Int)(h:List Int):List Int->Int
 |[]=>0
 |v::vs=>h.getD v.toNat 0+z*amn z h vs
theorem aiG{m:Ip}(hz:1<=m.size){h:List Int}(hh:okF m h):∀vs,(∀v∈vs,0<=v/\v<=255)->0<=amn m.size h vs/\amn m.size h vs<abz m.size vs.length
 |[],_=>by simp[amn,abz]
 |v::vs,hv=>by
  obtain⟨i1,i2⟩:=aiG hz hh vs fun u hu=>hv u (aH _ hu);obtain⟨v0,v1⟩:=hv v (List.mem_cons_self ..);obtain⟨r0,r1⟩:=hh.2 _ (adG (l:=h) (i:=v.toNat) (by rw[hh.1];omega));rw[amn,List.length_cons,abz];have h1:0<=m.size*amn m.size h vs:=Int.mul_nonneg (by omega) i1;have h2:m.size*(amn m.size h vs+1)<=m.size*abz m.size vs.length:=Int.mul_le_mul_of_nonneg_left (by omega) (by omega);rw[Int.mul_add,Int.mul_one] at h2;rw[Int.mul_comm (abz _ _)];omega
theorem anp{m:Ip}(hz:1<=m.size){h:List Int}(hh:okF m h):∀(vs:List Int) (f:List Int),f.length=256->(∀v∈vs,0<=v/\v<=255)->vs.Nodup->∀v∈vs,(afi m.size vs (amn m.size h vs) f).1.getD v.toNat 0=h.getD v.toNat 0
 |[],f,_,_,_,v,hv=>by cases hv
 |u::vs,f,hf,hr,hd,v,hv=>by
  obtain⟨u0,u1⟩:=hr u (List.mem_cons_self ..);obtain⟨r0,r1⟩:=hh.2 _ (adG (l:=h) (i:=u.toNat) (by rw[hh.1];omega));rw[List.nodup_cons] at hd
  have e1:(h.getD u.toNat 0+m.size*amn m.size h vs)/m.size=amn m.size h vs:=by
   rw[Int.add_mul_ediv_left _ _ (by omega),Int.ediv_eq_zero_of_lt r0 r1];omega
  have e2:(h.getD u.toNat 0+m.size*amn m.size h vs)%m.size=h.getD u.toNat 0:=by
   rw[Int.add_mul_emod_self_left,Int.emod_eq_of_lt r0 r1]
  rw[amn,afi,e1,e2];have hr':∀v∈vs,0<=v/\v<=255:=fun v hv=>hr v (aH _ hv)
  rcases List.mem_cons.1 hv with rfl|hv
  ·rw[aiF _ _ _ _ _ fun x hx e=>by
    have:=hr' x hx;exact hd.1 (by rw[show v=x from by omega];exact hx)]
   rw[List.getD_eq_getElem?_getD,List.getElem?_set_self (by omega)];rfl
  ·exact anp hz hh vs _ (by rw[List.length_set];exact hf) hr' hd.2 v hv
theorem anq:∀(zs acc:List Int),acc.Nodup->(dd acc zs).Nodup
 |[],acc,h=>h
 |z::zs,acc,h=>by
  show(dd (aat acc z) zs).Nodup;refine anq zs _ ?_;unfold aat;split
  ·exact h
  ·rename_i hn;rw[List.nodup_append];refine⟨h,by simp,fun a ha b hb=> ?_⟩;simp at hb;subst hb
   intro e;subst e
   exact hn (by simpa using ha)
theorem ale:∀(ts:List T) (acc:List Int),acc.Nodup->(T.rvs acc ts).Nodup
 |[],acc,h=>by rw[T.rvs];exact h
 |t::ts,acc,h=>by
  rw[T.rvs];exact ale ts _ (anq _ _ h)
theorem any_congr{m:Ip}{f f':List Int}{C:List Lt3}(hg:∀x∈C,bad (T.subs 1 x.l)=false/\bad (T.subs 1 x.r)=false)(h:∀v∈acv C,f.getD v.toNat 0=f'.getD v.toNat 0):aee m f C=aee m f' C:=by
 have key:∀x∈C,∀t,(t=x.l\/t=x.r)->aby m f t=aby m f' t:=fun x hx t ht=>by
  refine an7 _ t (af _) fun q hq hn=> ?_;refine h (-1-q) ?_;unfold acv;refine aji.2 (.inr ⟨t,abk.2 ⟨x,hx,ht⟩,?_⟩);rw[T.rv_eq,ai3,apf];exact⟨q,hq,hn,rfl⟩
 unfold aee
 have h2:∀x∈C,agC m f x.neg x.l x.r=agC m f' x.neg x.l x.r:=fun x hx=>by
  unfold agC;rw[key x hx x.l (.inl rfl),key x hx x.r (.inr rfl)]
 rw[Bool.eq_iff_iff,List.any_eq_true,List.any_eq_true];constructor
 ·rintro⟨x,hx,e⟩;exact⟨x,hx,by rw[←h2 x hx];exact e⟩
 ·rintro⟨x,hx,e⟩;exact⟨x,hx,by rw[h2 x hx];exact e⟩
theorem asQ:(Tryz.prog.info? 3).map (fun i=>(i.zero,i.size,i.bytes))=some (some (.int .i64 0),1,8):=by kernel_rfl
def OfB(b:Nat)(f:List Int)(W:World):Prop:=W.heap[b]? =some (.cells (f.map (Value.int .i64)).toArray 3 (0,0))
theorem OfB.later{b:Nat}{f:List Int}{W W':World}(h:OfB b f W)(hb:Below W.heap.size W W'):OfB b f W':=by
 have hlt:b<W.heap.size:=(aj.1 h).1;exact(hb.block b hlt).trans h
theorem OfB.lt{b:Nat}{f:List Int}{W:World}(h:OfB b f W):b<W.heap.size:=(aj.1 h).1
theorem OfB.cell{b:Nat}{f:List Int}{W:World}(h:OfB b f W){j:Nat}{z:Int}(hj:f[j]? =some z):W.cell? ⟨b,j,none⟩=some (.int .i64 z):=by
 unfold OfB at h;simp[World.cell?,h,hj]
theorem OfB.frozen{b:Nat}{f:List Int}{W:World}(h:OfB b f W)(j:Nat):W.frozen? ⟨b,j,none⟩=false:=by
 unfold OfB at h;simp[World.frozen?,h]
theorem OfB.set{b:Nat}{f:List Int}{W:World}(h:OfB b f W)(j:Nat)(z:Int):OfB b (f.set j z) (W.setCell ⟨b,j,none⟩ (.int .i64 z)):=by
 unfold OfB at*;rw[heap_setCell_same h];simp[List.map_set]
theorem OfB.is{b:Nat}{f:List Int}{W:World}(h:OfB b f W)(hl:f.length<=maxLen):acP W.heap.size W f (some ⟨b,0,none⟩) f.length:=
 ⟨af _,hl,.inr ⟨b,0,rfl,h.lt,fun j z hj=>by rw[Nat.zero_add];exact h.cell hj⟩⟩
def WhI(m:Ip)(C:List Lt3)(vs:List Int)(g:Nat)(w3:World)(nv:Value)(wr:World):Prop:=∃(n:Nat) (f:List Int),(n:Int)<=abz m.size vs.length/\nv= .int .i64 n/\okF m f/\OfB g f wr/\(∀j:Nat,j<n->∃f0,okF m f0/\aee m (afi m.size vs j f0).1 C=true)/\Below g w3 wr
def WhJ(m:Ip)(vs:List Int)(n:Int)(f:List Int)(g:Nat)(w3:World)(lv iv:Value)(wr:World):Prop:=∃i:Nat,i<=vs.length/\iv= .int .i64 i/\lv= .int .i64 (afi m.size (vs.take i) n f).2/\OfB g (afi m.size (vs.take i) n f).1 wr/\Below g w3 wr
def awz(m:Ip)(C:List Lt3)(w:World)(e:Ending)(w':World):Prop:=∃b:Bool,e= .returned (.bool b)/\(b=true↔ab1 m C)/\Below w.heap.size w w'
theorem aq3{m:Ip}(hz:1<=m.size){C:List Lt3}(hb:abv (aad C)=false){n:Nat}(hn:abz m.size (acv C).length<=(n:Int))(h:∀j:Nat,j<n->∃f0,okF m f0/\aee m (afi m.size (acv C) j f0).1 C=true):ab1 m C:=by
 intro f hf;have hr:∀v∈acv C,0<=v/\v<=255:=fun v hv=>alX hb hv;obtain⟨e0,e1⟩:=aiG hz hf (acv C) hr;obtain⟨f0,o0,ha⟩:=h (amn m.size f (acv C)).toNat (by omega);rw[show(((amn m.size f (acv C)).toNat:Nat):Int)=amn m.size f (acv C) from by omega] at ha;rw[←ha];refine any_congr (fun x hx=>⟨(ach hb x.l (abk.2 ⟨x,hx,.inl rfl⟩)).2,(ach hb x.r (abk.2 ⟨x,hx,.inr rfl⟩)).2⟩) fun v hv=> ?_;exact(anp hz hf (acv C) f0 o0.1 hr (ale _ _ (by simp)) v hv).symm
theorem adZ(g:Sg)(m:Ip)(hm:abg g m=true)(P:List LV)(hl:P.length<=1000000)(hs:T.sizes (aad (t3s P))<=100000)(hok:∀x∈P,abn g x.l x.r=0)(hpw:abz m.size (acv (t3s P)).length<=700)(aM:Nat)(ma:Option Addr)(mc:Nat)(a:Option Addr)(c:Nat)(w:World)(hn:aM<=w.heap.size)(hM:agB aM w m.rows ma mc)(hP:aaV aM w P a c):
 Calls Tryz.prog 18 #[ipV m ma mc,.slice a P.length c] w (awz m (t3s P) w):=by
 have hz1:=(aa0 hm).2.1;have hz4:=(aa0 hm).2.2.1
 have hbad:abv (aad (t3s P))=false:=by
  unfold abv;rw[List.any_eq_false];intro t ht;obtain⟨y,hy,e⟩:=abk.1 ht;obtain⟨x,hx,rfl⟩:=List.mem_map.1 hy;obtain⟨e1,e2⟩:=abq (hok x hx)
  rcases e with rfl|rfl
  ·simp[show x.t3.l.check=0 from(aaR e1).2.1]
  ·simp[show x.t3.r.check=0 from(aaR e2).2.1]
 have HOKV:=ae (show ∀x∈P,OkV g x.l/\OkV g x.r from fun x hx=>⟨amL (abq (hok x hx)).1,amL (abq (hok x hx)).2⟩);have HALL:=ae (fun n=>aq3 (m:=m) hz1 hbad (n:=n));have HRG:=ae (show ∀v∈acv (t3s P),0<=v/\v<=255 from fun v hv=>alX hbad hv);have D:=ae ((((aai.below (ag _ w)).and (ac6 (hP.mono hn))).and (adb (hM.mono hn))).pushI (ag _ _) m ma mc);clear hP hM hok hbad
 have hmk:∀W:World,(Instr.makeSlice 41 (.int .i64 256) (.int .i64 256)).run Tryz.prog W= .ok (.slice (some ⟨W.heap.size,0,none⟩) 256 256) (W.alloc (.cells (madeCells #[.int .i64 0] 256) 3)):=fun W=>by
  obtain⟨i0,hi,hq0,hq1,hq2⟩:=info_parts asQ;exact run_make_row 41 3 i0 _ Tryz.underlying41 hi hq0 hq1 rfl .i64 .i64 256 (by rw[hq2];omega) (by omega) W
 go_enter Tryz.func18,Tryz.ntmps18
 go_wp2_with fail
 generalize w.alloc (ipO m ma mc)=w1 at D ⊢;generalize hb0:w.heap.size=b0 at D ⊢;have HB0:=ae hb0;clear hb0;refine(afE P hl w1.heap.size a c w1 (af _) D.out.now.2.2.1).mono ?_;rintro e w2 ⟨p2,c2,rfl,hA,hb⟩;have D2:=ae (D.out.mv hb);have CV:=ae (afu (aad (t3s P)) hs w2.heap.size p2 c2 w2 (af _) hA);clear hb hA D
 go_wp2_with fail
 refine CV.out.mono ?_;rintro e w3 ⟨p3,c3,rfl,hI,_,hb⟩;rw[show T.rvs [] (aad (t3s P))=acv (t3s P) from rfl] at hI ⊢;have D3:=ae ((D2.out.mv hb).and (afJ hI));clear hb D2 CV;have hlv:(acv (t3s P)).length<=c3/\c3<=maxLen:=⟨hI.1,hI.2.1⟩;unfold maxLen at hlv;obtain⟨hv1,hv2⟩:=hlv
 have hvl:(acv (t3s P)).length<=1000000:=by
  have h1:=T.rv_length (.node 0 (aad (t3s P)));simp only[T.rv,T.size] at h1;rw[if_neg (by decide)] at h1;unfold acv;omega
 clear hI;generalize acv (t3s P)=vs at hv1 hvl hpw HALL HRG D3 ⊢;obtain⟨⟨i0,i1⟩,_⟩:=D3.out.now.2
 go_wp2_with fail
 refine(asP m.size vs.length hz1 hz4 hvl (by omega) w3).mono ?_;rintro e w4 ⟨rfl,hb⟩;have D4:=ae (D3.out.mv hb);have hbl4:b0<w4.heap.size:=World.block_lt_of_cell? w4 ⟨b0,0,none⟩ D4.out.now.2.1.1;clear hb D3 i0 i1;go_wp2
 have HO0:=ae (show OfB w4.heap.size (List.replicate 256 0) (w4.alloc (.cells (madeCells #[.int .i64 0] 256) 3)) from by
  have hmc:madeCells #[Value.int .i64 0] 256=((List.replicate 256 (0:Int)).map (Value.int .i64)).toArray:=by kernel_rfl
  unfold OfB;rw[heap_alloc_new,hmc])
 have HB4:=ae (show Below w4.heap.size w4 (w4.alloc (.cells (madeCells #[.int .i64 0] 256) 3)) from(ag _ _).alloc (af _) _);generalize w4.alloc (.cells (madeCells #[.int .i64 0] 256) 3)=w5 at HO0 HB4 ⊢;clear hmk;have hpp:=adP hz1 vs.length
 go_loopw [8] (fun nv wr=>WhI m (t3s P) vs w4.heap.size w4 nv wr) (fun nv _=>(abz m.size vs.length).toNat-(intOf nv).toNat)
 case atStart=>exact⟨0,List.replicate 256 0,by omega,rfl,⟨by simp,fun z h=>by rw[List.eq_of_mem_replicate h];omega⟩,HO0.out,fun j h=>by omega,HB4.out⟩
 case round=>
  obtain⟨n,f,hn,rfl,hf,hO,hno,hB⟩:=hrel;have HN:=ae hno;have HF:=ae hf;have HO:=ae hO;have HB:=ae hB;clear hno hf hO hB HO0 HB4;obtain⟨wo,rfl⟩:∃wo,wo=wr:=⟨_,rfl⟩;by_cases hlt:(n:Int)<abz m.size vs.length
  ·have hn0:(0:Int)<=(n:Int):=aw _;go_wp2
   go_loopw [9,10] (fun lv iv wr=>WhJ m vs n f w4.heap.size w4 lv iv wr) (fun _ iv _=>vs.length-(intOf iv).toNat)
   case atStart=>exact⟨0,Nat.zero_le _,rfl,rfl,HO.out,HB.out⟩
   case round=>
    obtain⟨i,hi,rfl,rfl,hO2,hB2⟩:=hrel;have HO2:=ae hO2;have HB2:=ae hB2;have DR:=ae (D4.out wr hB2);clear hO2 hB2;obtain⟨hok2,hlf⟩:=aq2 hz1 (vs.take i) n f hn0 HF.out;have HOK2:=ae hok2;have hlz:=aq1 hz1 (vs.take i) n f hn0;have HSN:=ae (fun v (hv:vs[i]? =some v)=>show afi m.size (vs.take (i+1)) n f=((afi m.size (vs.take i) n f).1.set v.toNat ((afi m.size (vs.take i) n f).2%m.size),(afi m.size (vs.take i) n f).2/m.size) from by rw[List.take_add_one,hv];exact ald m.size v (vs.take i) n f);clear hok2;obtain⟨his,⟨i0,i1⟩,_⟩:=DR.out;by_cases hil:i<vs.length
    ·obtain⟨b,o,v,rfl,hbn,hv,hcv⟩:=his.elem (k:=i) hil;obtain⟨v0,v1⟩:=HRG.out v (ak hv);have hsn:=HSN.out v hv;obtain⟨u,rfl⟩:∃u:Nat,v=u:=⟨v.toNat,by omega⟩;rw[Int.toNat_natCast] at hsn;have HSN2:=ae hsn;clear hsn hv HSN his;generalize (afi m.size (vs.take i) n f).1=f1 at HO2 HOK2 HSN2;generalize (afi m.size (vs.take i) n f).2=lf at hlf hlz HSN2 ⊢
     have hwr:wrap64 (lf.tdiv m.size)=lf/m.size:=by
      rw[Int.tdiv_eq_ediv_of_nonneg hlf];have h1:0<=lf/m.size:=Int.ediv_nonneg hlf (by omega);have h2:lf/m.size<=lf:=Int.ediv_le_self m.size hlf;unfold wrap64;generalize lf/m.size=y at h1 h2 ⊢;omega
     have hfl:=HOK2.out.1;have hi0:(0:Int)<=(i:Int):=aw _;have hi1:(i:Int)<(vs.length:Int):=by omega
     have hu0:(0:Int)<=(u:Int):=aw _;have hu1:(u:Int)<256:=by omega
     obtain⟨zu,hzu⟩:∃zu,f1[u]? =some zu:=⟨_,ai (by omega)⟩;have hco:=HO2.out.cell (j:=u) (z:=zu) hzu;clear hzu;have hfo:=HO2.out.frozen u;have hzz:(m.size==0)=false:=beq_eq_false_iff_ne.2 (by omega);have i0':∀x,(wr.setCell ⟨w4.heap.size,u,none⟩ x).cell? ⟨b0,0,none⟩=some (.int .i64 m.size):=fun x=>(aq (a:=⟨b0,0,none⟩) (an _ _ _ _ (by show b0≠w4.heap.size;omega))).trans i0;clear hfl;go_wp2
     go_region
     go_wp2
     go_roundw
     case rel=>
      refine⟨i+1,by omega,by go_num,?_,?_,?_⟩
      ·rw[HSN2.out]
      ·rw[HSN2.out];exact(HO2.out.set u _).later (ag _ _).drew
      ·exact(HB2.out.setCell (p:=⟨w4.heap.size,u,none⟩) (af _) _).drew
     case measure=>simp[intOf];omega
    ·obtain rfl:i=vs.length:=by omega
     rw[List.take_length] at HO2 HOK2;clear hil hlf hlz HSN his hi;obtain⟨f1,hf1⟩:∃f1,(afi m.size vs n f).1=f1:=⟨_,rfl⟩;have HF1:=ae hf1;rw[hf1] at HO2 HOK2;clear hf1
     have CA:=alc g m hm f1 HOK2.out.2 P HOKV.out wr.heap.size ma mc (some ⟨w4.heap.size,0,none⟩) 256 a c wr (af _) DR.out.2.2.1 (by
      have h:=HO2.out.is (by rw[HOK2.out.1];simp[maxLen]);rwa[HOK2.out.1] at h) DR.out.2.2.2.1
     rw[HOK2.out.1] at CA;obtain⟨q,hq⟩:∃q,aee m f1 (t3s P)=q:=⟨_,rfl⟩;rw[hq] at CA;have HCA:=ae CA;have HQ:=ae hq;clear CA hq
     go_wp2_with fail
     refine HCA.out.mono ?_;rintro e w6 ⟨rfl,hb⟩;have HB6:=ae (HB2.out.trans (hb.mono HB2.out.size));have HO6:=ae (HO2.out.later hb);clear hb HCA i0 i1;cases q with
     |false=>
      have HR:=ae (D4.out w6 HB6.out).2.2.2.2;go_wp2;go_ret;exact⟨false,rfl,⟨fun h=>(by cases h),fun h=>(by have h2:=h f1 HOK2.out;rw[HQ.out] at h2;cases h2)⟩,by rw[HB0.out];exact HR.out⟩
     |true=>
      go_wp2
      go_roundw
      case rel=>
       refine⟨n+1,f1,by omega,by go_num,HOK2.out,HO6.out,fun j hj=> ?_,HB6.out⟩;by_cases e:j=n
       ·subst e;exact⟨f,HF.out,by rw[HF1.out];exact HQ.out⟩
       ·exact HN.out j (by omega)
      case measure=>simp[intOf];omega
  ·have HR:=ae (D4.out wo HB.out).2.2.2.2;have HH:=ae (HALL.out n (by omega) HN.out);go_wp2;go_ret;exact⟨true,rfl,⟨fun _=>HH.out,fun _=>rfl⟩,by rw[HB0.out];exact HR.out⟩
end Go.Proofs.YtabfapijgfjflaaGreat
