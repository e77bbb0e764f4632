import Derived.Test.YtabfapijgfjflaaGreatMQBm
import Derived.Test.YtabfapijgfjflaaGreatMQBp
import Derived.Laws.MakeOwn
import Derived.Test.YtabfapijgfjflaaGreatMQBd
import Derived.Test.YtabfapijgfjflaaGreatMAl
set_option linter.unusedVariables false
set_option linter.unusedSimpArgs false
set_option maxRecDepth 100000
set_option maxHeartbeats 8000000
namespace Go.Proofs.YtabfapijgfjflaaGreat
open Go.RowKit
def aun(aM:Nat)(n:Bool)(l r:T)(k:Int)(w:World)(e:Ending)(w':World):Prop:=
 ∃z:LV,e= .returned (.tuple #[z.v,.int .i64 k])/\z.n=n/\z.l=l/\z.r=r/\adB (fun b=>(b<aM\/w.heap.size<=b)/\b<w'.heap.size) w' z/\Below w.heap.size w w'
def Knf(aM m b0:Nat)(u:World)(ts:List T)(a:Option Addr)(c:Nat):Prop:=∀X:World,u.heap.size<=X.heap.size->(∀b,b≠b0->b<u.heap.size->X.heap[b]? =u.heap[b]?)->aaj (fun b=>(b<aM\/m<=b)/\b<X.heap.size) X ts a c
theorem ati{aM m m' b0:Nat}{u:World}{ts:List T}{a:Option Addr}{c:Nat}(h:aaj (fun b=>(b<aM\/m'<=b)/\b<u.heap.size) u ts a c)(h1:aM<=b0)(h2:b0<m')(h3:m<=m'):Knf aM m b0 u ts a c:=fun X hs hb=>
 h.keep (ok':=fun b=>(b<aM\/m<=b)/\b<X.heap.size) (fun b hk=>hb b (by have:=hk.1;omega) hk.2) (fun b hk=>⟨by have:=hk.1;omega,aF hk.2 hs⟩)
theorem Knf.mv{aM m b0:Nat}{u v:World}{ts:List T}{a:Option Addr}{c:Nat}(h:Knf aM m b0 u ts a c)(hb:Below u.heap.size u v):Knf aM m b0 v ts a c:=fun X hs hx=>
 h X (aE hb.size hs) fun b h1 h2=>(hx b h1 (aF h2 hb.size)).trans (hb.block b h2)
theorem Knf.sets{aM m b:Nat}{u:World}{ts:List T}{a:Option Addr}{c:Nat}(h:Knf aM m b u ts a c)(v0 v1 v2 v3 v4:Value):
 aaj (fun k=>(k<aM\/m<=k)/\k<(((((u.setCell ⟨b,0,none⟩ v0).setCell ⟨b,1,none⟩ v1).setCell ⟨b,2,none⟩ v2).setCell ⟨b,3,none⟩ v3).setCell ⟨b,4,none⟩ v4).heap.size) (((((u.setCell ⟨b,0,none⟩ v0).setCell ⟨b,1,none⟩ v1).setCell ⟨b,2,none⟩ v2).setCell ⟨b,3,none⟩ v3).setCell ⟨b,4,none⟩ v4) ts a c:=
 h _ (by simp) fun k hne h2=>by
   rw[an _ _ _ _ hne,an _ _ _ _ hne,an _ _ _ _ hne,an _ _ _ _ hne,an _ _ _ _ hne]
theorem ajC(ok:Nat->Prop)(w:World):adB ok w LV.zero:=⟨(show(Lit.int .i64 0).wf=true from by decide),(show(Lit.int .i64 0).wf=true from by decide),⟨by simp[LV.zero,T.args],by simp[LV.zero,maxLen],.inl rfl⟩,⟨by simp[LV.zero,T.args],by simp[LV.zero,maxLen],.inl rfl⟩⟩
theorem ajD(s:Sb)(hsz:∀x∈s,x.2.size<=1000000000000)(x:LV)(hx:x.sz)(aM:Nat)(a:Option Addr)(c:Nat)(w:World)(hn:aM<=w.heap.size)(hS:ahj aM w s a c)(hX:aa1 aM w x):
 Calls Tryz.prog 150 #[.slice a s.length c,x.v] w (aun aM (apN s x) (apL s x) (apR s x) (apK s x) w):=by
 have C1:=ae (fun(W:World) (hW:Below w.heap.size w W)=>adI s hsz x.l hx.1 aM a c x.pa x.ca W (aE hn hW.size) (hS.below (hW.mono hn)) hX.lw (hX.below (hW.mono hn)).la);have C2:=ae (fun(W:World) (hW:Below w.heap.size w W)=>adI s hsz x.r hx.2 aM a c x.pb x.cb W (aE hn hW.size) (hS.below (hW.mono hn)) hX.rw (hX.below (hW.mono hn)).ra);have d0:=((aai.below (ag _ w)).pushB (ag _ _) x).pushB (ag _ _) LV.zero;simp only[aah] at d0;have D:=ae d0;clear d0 hS hX hsz hx;have hs1:((w.alloc x.obj).alloc LV.zero.obj).heap.size=w.heap.size+2:=by simp
 obtain⟨w1,hw1⟩:∃w1,(w.alloc x.obj).alloc LV.zero.obj=w1:=⟨_,rfl⟩;rw[hw1] at D hs1;have hw1':(w.alloc x.obj).alloc (.cells #[.bool false,.int .i64 0,.slice none 0 0,.int .i64 0,.slice none 0 0] 62)=w1:=hw1;have HW1:=ae hw1';clear hw1 hw1';go_enter Tryz.func150,Tryz.ntmps150
 go_wp2_with fail
 rw[HW1.out];clear HW1;refine(C1.out w1 D.out.now.2.2).mono ?_;rintro e w2 ⟨a2,c2,rfl,hwf2,hA2,hb2⟩;have hs2:=hb2.size;obtain⟨w3,hw3⟩:∃w3,w2.alloc (aaa (abe s x.l).head a2 (abe s x.l).args.length c2)=w3:=⟨_,rfl⟩;have hb3:Below w2.heap.size w2 w3:=by rw[←hw3];exact(ag _ _).alloc (af _) _
 have hs3:=hb3.size;have d3:=(D.out.mv hb2).push (ag _ _) (abe s x.l).head a2 (abe s x.l).args.length c2;rw[hw3] at d3;have D3:=ae d3;have KA:=ae ((ati (b0:=w.heap.size+1) (m:=w.heap.size) hA2 (by omega) (by omega) (by omega)).mv hb3);have HWF2:=ae hwf2;clear d3 hb2 hb3 hA2 hwf2 D C1;by_cases h1:aeN s x.l=0
 case neg=>
  obtain⟨k,hk⟩:∃k,aeN s x.l=k:=⟨_,rfl⟩;have HE:=ae (as8 (s:=s) (x:=x) (k:=k) (by unfold apK;rw[if_neg h1];exact hk) (by rw[←hk];exact h1));have HQ:=ae D3.out.now.2.2.2;have hz:=D3.out.now.2.1;obtain⟨z0,z1,z2,z3,z4⟩:=hz.lc;obtain⟨q0,q1,q2,q3,q4⟩:=hz.lf;simp only[LV.zero,T.head,T.args,List.length_nil] at z0 z1 z2 z3 z4;clear hz;rw[hk] at h1 ⊢;have h2:(k != 0)=true:=by simpa using h1
  clear h1 hk D3 KA;go_wp2;refine bodyPost_ret (v:= .tuple #[LV.zero.v,.int .i64 k]) (by simp[results,Tryz.results150,go_sem,z0,z1,z2,z3,z4,LV.zero,T.head,T.args]) rfl ?_;exact⟨LV.zero,by rw[HE.out.2.2.2],HE.out.1.symm,HE.out.2.1.symm,HE.out.2.2.1.symm,ajC _ _,alL HQ.out (by omega) _ _ _ _ _⟩
 have H1:=ae h1;rw[h1];clear h1;obtain⟨x0,x1,x2,x3,x4⟩:=D3.out.now.2.2.1.lc
 go_wp2_with fail
 clear x0 x1 x2 x3 x4;refine(C2.out w3 D3.out.now.2.2.2).mono ?_;rintro e w4 ⟨a4,c4,rfl,hwf4,hA4,hb4⟩;have hs4:=hb4.size;obtain⟨w5,hw5⟩:∃w5,w4.alloc (aaa (abe s x.r).head a4 (abe s x.r).args.length c4)=w5:=⟨_,rfl⟩;have hb5:Below w4.heap.size w4 w5:=by rw[←hw5];exact(ag _ _).alloc (af _) _
 have hs5:=hb5.size;have d5:=(D3.out.mv hb4).push (ag _ _) (abe s x.r).head a4 (abe s x.r).args.length c4;rw[hw5] at d5;have D5:=ae d5;have KB:=ae ((ati (b0:=w.heap.size+1) (m:=w.heap.size) hA4 (by omega) (by omega) (by omega)).mv hb5);have KA5:=ae ((KA.out.mv hb4).mv hb5);have HWF4:=ae hwf4;clear d5 hb4 hb5 hA4 hwf4 D3 C2 KA hw3;have hz:=D5.out.now.2.2.1;have hxx:=D5.out.now.2.2.2.1;obtain⟨z0,z1,z2,z3,z4⟩:=hz.lc;obtain⟨q0,q1,q2,q3,q4⟩:=hz.lf;simp only[LV.zero,T.head,T.args,List.length_nil] at z0 z1 z2 z3 z4;have HQ:=ae D5.out.now.2.2.2.2;by_cases h2:aeN s x.r=0
 case neg=>
  obtain⟨k,hk⟩:∃k,aeN s x.r=k:=⟨_,rfl⟩;have HE:=ae (as8 (s:=s) (x:=x) (k:=k) (by unfold apK;rw[if_pos H1.out];exact hk) (by rw[←hk];exact h2));clear hz hxx;rw[hk] at h2 ⊢;have h3:(k != 0)=true:=by simpa using h2
  clear h2 hk D5 KB KA5;go_wp2;refine bodyPost_ret (v:= .tuple #[LV.zero.v,.int .i64 k]) (by simp[results,Tryz.results150,go_sem,z0,z1,z2,z3,z4,LV.zero,T.head,T.args]) rfl ?_;exact⟨LV.zero,by rw[HE.out.2.2.2],HE.out.1.symm,HE.out.2.1.symm,HE.out.2.2.1.symm,ajC _ _,alL HQ.out (by omega) _ _ _ _ _⟩
 have HE:=ae (avu (s:=s) (x:=x) (by unfold apK;rw[if_pos H1.out];exact h2));rw[h2];clear h2;obtain⟨x0,_,_,_,_⟩:=hxx.lc;obtain⟨⟨u0,u1⟩,⟨v0,v1⟩,_⟩:=D5.out.now;clear hz hxx D5;generalize abe s x.l=y1 at HE HWF2 KA5 v0 v1 ⊢;generalize abe s x.r=y2 at HE HWF4 KB u0 u1 hw5 ⊢;go_wp2;refine bodyPost_ret (v:= .tuple #[(LV.mk x.n y1 y2 a2 c2 a4 c4).v,.int .i64 0]) (by simp[results,Tryz.results150,go_sem,z0,z1,z2,z3,z4]) rfl ?_;exact⟨LV.mk x.n y1 y2 a2 c2 a4 c4,by rw[HE.out.2.2.2],HE.out.1.symm,HE.out.2.1.symm,HE.out.2.2.1.symm,⟨HWF2.out,HWF4.out,KA5.out.sets _ _ _ _ _,KB.out.sets _ _ _ _ _⟩,alL HQ.out (by omega) _ _ _ _ _⟩
abbrev Z5:Array Value:=#[.bool false,.int .i64 0,.slice none 0 0,.int .i64 0,.slice none 0 0]
theorem aqb(n:Nat):(madeCells Z5 (n*5)).toList=aaf (List.replicate n LV.zero):=by
 apply List.ext_getElem?;intro j;by_cases h:j<n*5
 ·have hx:(List.replicate n LV.zero)[j/5]? =some LV.zero:=by rw[List.getElem?_replicate,if_pos (by omega)]
  obtain⟨g0,g1,g2,g3,g4⟩:=acG hx;have hl:(madeCells Z5 (n*5)).toList[j]? =some (Z5[j%5]!):=by simp[madeCells,h]
  rw[hl];have hm:j%5=0\/j%5=1\/j%5=2\/j%5=3\/j%5=4:=by omega
  rcases hm with e|e|e|e|e
  ·have hj:j=j/5*5:=by omega
   rw[e,show(aaf (List.replicate n LV.zero))[j]? =(aaf (List.replicate n LV.zero))[j/5*5]? from by rw[←hj],g0];rfl
  ·have hj:j=j/5*5+1:=by omega
   rw[e,show(aaf (List.replicate n LV.zero))[j]? =(aaf (List.replicate n LV.zero))[j/5*5+1]? from by rw[←hj],g1];rfl
  ·have hj:j=j/5*5+2:=by omega
   rw[e,show(aaf (List.replicate n LV.zero))[j]? =(aaf (List.replicate n LV.zero))[j/5*5+2]? from by rw[←hj],g2];rfl
  ·have hj:j=j/5*5+3:=by omega
   rw[e,show(aaf (List.replicate n LV.zero))[j]? =(aaf (List.replicate n LV.zero))[j/5*5+3]? from by rw[←hj],g3];rfl
  ·have hj:j=j/5*5+4:=by omega
   rw[e,show(aaf (List.replicate n LV.zero))[j]? =(aaf (List.replicate n LV.zero))[j/5*5+4]? from by rw[←hj],g4];rfl
 ·rw[List.getElem?_eq_none (by simp[size_madeCells];omega),List.getElem?_eq_none (by rw[abB];simp;omega)]
theorem amd{P:List LV}:∀{k:Nat} {x:LV},k<P.length->(((((aaf P).set (k*5) (.bool x.n)).set (k*5+1) (.int .i64 x.l.head)).set (k*5+2) (.slice x.pa x.l.args.length x.ca)).set (k*5+3) (.int .i64 x.r.head)).set (k*5+4) (.slice x.pb x.r.args.length x.cb)=aaf (P.set k x):=by
 induction P with
 |nil=>intro k x h;simp at h
 |cons z P ih=>
  intro k x h;cases k with
  |zero=>
   show((((((z.cells++aaf P).set _ _).set _ _).set _ _).set _ _).set _ _)=x.cells++aaf P;simp
  |succ k=>
   have:=ih (k:=k) (x:=x) (by simpa using h);show(((((z.cells++aaf P).set _ _).set _ _).set _ _).set _ _).set _ _=z.cells++aaf (P.set k x);rw[←this]
   have e:∀(L:List Value) (i:Nat) (u:Value),(z.cells++L).set ((k+1)*5+i) u=z.cells++L.set (k*5+i) u:=fun L i u=>by
    rw[List.set_append_right _ _ (by simp;omega)]
    congr 2
    simp;omega
   have e0:∀(L:List Value) (u:Value),(z.cells++L).set ((k+1)*5) u=z.cells++L.set (k*5) u:=fun L u=>e L 0 u;rw[e0,e,e,e,e]
abbrev auo(W:World)(g o:Nat)(z:LV):World:=((((W.setCell ⟨g,o,none⟩ (.bool z.n)).setCell ⟨g,o+1,none⟩ (.int .i64 z.l.head)).setCell ⟨g,o+2,none⟩ (.slice z.pa z.l.args.length z.ca)).setCell ⟨g,o+3,none⟩ (.int .i64 z.r.head)).setCell ⟨g,o+4,none⟩ (.slice z.pb z.r.args.length z.cb)
theorem avY{aN g n cap k:Nat}{W0 W:World}{L:List LV}{z:LV}(h:OL (okD (.slice (some ⟨g,0,none⟩) n cap) W0) aN (.slice (some ⟨g,0,none⟩) n cap) L W)(hl:L.length=n)(hk:k<n)(h0:W0.heap.size<=W.heap.size)(hz:adB (fun b=>b<W.heap.size/\b≠g) W z):
 OL (okD (.slice (some ⟨g,0,none⟩) n cap) (auo W g (k*5) z)) aN (.slice (some ⟨g,0,none⟩) n cap) (L.set k z) (auo W g (k*5) z):=by
 have hown:=h.1;rw[hl] at hown;have h4:=(((((hown.stored (k*5) (.bool z.n)).1.stored (k*5+1) (.int .i64 z.l.head)).1.stored (k*5+2) (.slice z.pa z.l.args.length z.ca)).1.stored (k*5+3) (.int .i64 z.r.head)).1.stored (k*5+4) (.slice z.pb z.r.args.length z.cb)).1;rw[amd (by omega)] at h4
 have hb:∀b,b≠g->(auo W g (k*5) z).heap[b]? =W.heap[b]? :=fun b hne=>by
  unfold auo;rw[an _ _ _ _ hne,an _ _ _ _ hne,an _ _ _ _ hne,an _ _ _ _ hne,an _ _ _ _ hne]
 have hsz:(auo W g (k*5) z).heap.size=W.heap.size:=by simp[auo]
 refine⟨by rw[List.length_set,hl];exact h4,fun y hy=> ?_⟩
 rcases List.mem_or_eq_of_mem_set hy with hy|rfl
 ·exact(h.2 y hy).keep (fun b hk=>hb b (fun e=>hk.2 (by rw[e];rfl))) (fun b hk=>⟨by rw[hsz];have:=hk.1;omega,hk.2⟩)
 ·exact hz.keep (fun b hk=>hb b hk.2) (fun b hk=>⟨by rw[hsz];exact hk.1,fun e=>hk.2 (by simpa[Value.ownBlock] using e.symm)⟩)
def AcI(s:Sb)(P:List LV)(w:World)(v:Value)(wr:World):Prop:=∃(k:Nat) (Q:List LV),k<=P.length/\v= .int .i64 k/\Q.length=k/\t3s Q=(t3s (P.take k)).map (ap3 s)/\aks s (t3s P)=aks s ((t3s P).drop k)/\
 OL (okD (.slice (some ⟨w.heap.size,0,none⟩) P.length P.length) wr) w.heap.size (.slice (some ⟨w.heap.size,0,none⟩) P.length P.length) (Q++List.replicate (P.length-k) LV.zero) wr/\Below w.heap.size w wr
theorem aup{s:Sb}{P Q:List LV}{k:Nat}{x z:LV}(h:P[k]? =some x)(hq:t3s Q=(t3s (P.take k)).map (ap3 s))(hz:z.t3=ap3 s x.t3):t3s (Q++[z])=(t3s (P.take (k+1))).map (ap3 s):=by
 rw[List.take_add_one,h];simp only[t3s,List.map_append,Option.toList,List.map_cons,List.map_nil] at*;rw[hq,hz]
theorem avZ{Q:List LV}{n k:Nat}{z:LV}(hq:Q.length=k)(hk:k<n):(Q++List.replicate (n-k) LV.zero).set k z=(Q++[z])++List.replicate (n-(k+1)) LV.zero:=by
 rw[List.set_append_right _ _ (by omega),hq,Nat.sub_self,show n-k=(n-(k+1))+1 from by omega,List.replicate_succ,List.set_cons_zero,List.append_assoc];rfl
theorem ae8(s:Sb)(hsz:∀x∈s,x.2.size<=1000000000000)(P:List LV)(hps:∀x∈P,x.sz)(aM:Nat)(sa:Option Addr)(sc:Nat)(a:Option Addr)(c:Nat)(w:World)(hn:aM<=w.heap.size)(hS:ahj aM w s sa sc)(hP:aaV aM w P a c):
 Calls Tryz.prog 104 #[.slice sa s.length sc,.slice a P.length c] w (apD (acL s (t3s P)) (acE s (t3s P)) w):=by
 have hlc:P.length<=c/\c<=maxLen:=⟨hP.1,hP.2.1⟩;unfold maxLen at hlc;obtain⟨hl1,hl2⟩:=hlc;have HSZ:=ae hsz;have HPS:=ae hps;have HP:=ae (hP.mono hn);have HS:=ae (hS.mono hn);clear hP hS hsz hps;by_cases h32:32<P.length
 ·have HE:=ae (show acE s (t3s P)=2/\acL s (t3s P)=[] from by
   have h:acE s (t3s P)=2:=by unfold acE;rw[if_pos (by simpa using h32)]
   exact⟨h,apA (by rw[h];decide)⟩)
  have h32':(32:Int)<(P.length:Int):=by omega
  clear h32;go_enter Tryz.func104,Tryz.ntmps104;go_wp2;refine bodyPost_ret (v:= .tuple #[.slice none 0 0,.int .i64 2]) (by simp[results,Tryz.results104,go_sem]) rfl ?_;exact⟨[],none,0,HE.out.2.symm,by rw[HE.out.1];rfl,aaV.nil _ _ _ (by simp[maxLen]),ag _ _⟩
 have HE:=ae (show acE s (t3s P)=aks s (t3s P) from by unfold acE;rw[if_neg (by simpa using h32)]);have h32':decide ((32:Int)<(P.length:Int))=false:=decide_eq_false (by omega)
 have hmk:∀W:World,(Instr.makeSlice 23 (.int .i64 (P.length:Int)) (.int .i64 (P.length:Int))).run Tryz.prog W= .ok (.slice (some ⟨W.heap.size,0,none⟩) P.length P.length) (W.alloc (.cells (madeCells Z5 (P.length*5)) 62)):=fun W=>by
  obtain⟨i0,hi,hz0,hz1,hz2⟩:=info_parts agN;have h:=run_make (P:=Tryz.prog) W 23 62 i0 _ Tryz.underlying23 hi hz0 .i64 .i64 (P.length:Int) (P.length:Int) (by omega) (by omega) (by rw[hz2];omega) (by omega);rw[h,hz1,Int.toNat_natCast];rfl
 go_enter Tryz.func104,Tryz.ntmps104;go_wp2
 have hown0:OL (okD (.slice (some ⟨w.heap.size,0,none⟩) P.length P.length) (w.alloc (.cells (madeCells Z5 (P.length*5)) 62))) w.heap.size (.slice (some ⟨w.heap.size,0,none⟩) P.length P.length) (List.replicate P.length LV.zero) (w.alloc (.cells (madeCells Z5 (P.length*5)) 62)):=by
  refine⟨⟨by rw[abB],.inr ⟨w.heap.size,P.length,madeCells Z5 (P.length*5),by simp,af _,heap_alloc_new _ _,by simp,by unfold maxLen;omega,by rw[size_madeCells],?_⟩⟩,fun y hy=> ?_⟩
  ·rw[List.length_replicate,List.take_of_length_le (by simp[size_madeCells]),aqb]
  ·rw[List.eq_of_mem_replicate hy];exact ajC _ _
 have HO0:=ae hown0;have HB0:=ae (show Below w.heap.size w (w.alloc (.cells (madeCells Z5 (P.length*5)) 62)) from(ag _ _).alloc (af _) _);generalize w.alloc (.cells (madeCells Z5 (P.length*5)) 62)=w1 at HO0 HB0 ⊢;clear hmk hown0
 go_loopw [18] (fun v wr=>AcI s P w v wr) (fun v _=>P.length-(intOf v).toNat)
 case atStart=>exact⟨0,[],Nat.zero_le _,rfl,rfl,rfl,rfl,by simpa using HO0.out,HB0.out⟩
 case round=>
  obtain⟨k,Q,hk,rfl,hql,hqt,hak,hO,hB⟩:=hrel;have HO:=ae hO;have HB:=ae hB;have hbz:=hB.size;have HQ:=ae (And.intro hql (And.intro hqt hak));clear hO hB hqt hak hql HO0 HB0;by_cases hlt:k<P.length
  ·obtain⟨b,o,x,rfl,hb,hx,⟨a0,a1,a2,a3,a4⟩,hxl⟩:=(HP.out.below HB.out).elem (i:=k) hlt;have hk0:(0:Int)<=(k:Int):=aw _;have hk1:(k:Int)<(P.length:Int):=by omega
   have hbw:b<wr.heap.size:=by omega
   have hxs:=HPS.out x (ak hx);obtain⟨W2,hW2⟩:∃W2,wr.alloc x.obj=W2:=⟨_,rfl⟩;have hs2:W2.heap.size=wr.heap.size+1:=by rw[←hW2];simp
   have hF2:Below wr.heap.size wr W2:=by rw[←hW2];exact(ag _ wr).alloc (af _) _
   obtain⟨l0,l1,l2,l3,l4⟩:=(show aai (Lc wr.heap.size x) W2 from by rw[←hW2];exact abS wr x).now;have CA:=ae (ajD s HSZ.out x hxs w.heap.size sa sc W2 (by omega) (HS.out.below (HB.out.trans (hF2.mono hbz))) (hxl.below (hF2.mono hbz)));have HX:=ae (And.intro hx (arU (s:=s) (acr hx)));have HF2:=ae hF2;clear hx hxl hF2 hxs
   go_wp2_with fail
   refine CA.out.mono ?_;rintro e w3 ⟨z,rfl,hzn,hzl,hzr,hzp,hb3⟩;have hz3:=hb3.size;have hbl3:Below wr.heap.size wr w3:=HF2.out.trans (hb3.mono HF2.out.size);have hO3:=HO.out.later (fun b hk=>hk.1) hbl3;have hL:(Q++List.replicate (P.length-k) LV.zero).length=P.length:=by rw[aK,HQ.out.1,List.length_replicate];omega
   have hnew:=avY (z:=z) hO3 hL hlt hbl3.size (hzp.keep (fun _ _=>rfl) (fun b hk=>⟨hk.2,by have:=hk.1;omega⟩));rw[avZ HQ.out.1 hlt] at hnew
   have hcl:∀j,j<P.length*5->∃u,w3.cell? ⟨w.heap.size,j,none⟩=some u:=fun j hj=>by
    have h:=hO3.1.cells (g:=w.heap.size) rfl j;have hj2:j<(aaf (Q++List.replicate (P.length-k) LV.zero)).length:=by rw[abB,hL];exact hj
    have h2:=h _ (ai hj2);rw[aaB] at h2;exact⟨_,by simpa using h2⟩
   obtain⟨s0,hs0⟩:=hcl (k*5) (by omega);obtain⟨s1,hs1⟩:=hcl (k*5+1) (by omega);obtain⟨s2,hs2'⟩:=hcl (k*5+2) (by omega);obtain⟨s3,hs3⟩:=hcl (k*5+3) (by omega);obtain⟨s4,hs4⟩:=hcl (k*5+4) (by omega);have hfz:=hO3.1;rw[hL] at hfz;have fz:∀j,w3.frozen? ⟨w.heap.size,j,none⟩=false:=fun j=>hfz.frozenAt j;have HNEW:=ae hnew
   have HBN:=ae (show Below w.heap.size w (auo w3 w.heap.size (k*5) z) from
    (((((HB.out.trans (hbl3.mono hbz)).setCell (p:=⟨w.heap.size,_,none⟩) (af _) _).setCell (p:=⟨w.heap.size,_,none⟩) (af _) _).setCell (p:=⟨w.heap.size,_,none⟩) (af _) _).setCell (p:=⟨w.heap.size,_,none⟩) (af _) _).setCell (p:=⟨w.heap.size,_,none⟩) (af _) _)
   have HZ:=ae (And.intro hzn (And.intro hzl hzr));clear hzn hzl hzr hzp hb3 hbl3 hO3 hnew hcl hfz CA l0 l1 l2 l3 l4 a0 a1 a2 a3 a4 hW2;by_cases h0:apK s x=0
   ·have HA:=ae (avu h0);rw[h0];clear h0
    go_wp2_with fail
    go_roundw
    case rel=>
     refine⟨k+1,Q++[z],by omega,by go_num,by simp[HQ.out.1],aup HX.out.1 HQ.out.2.1 ?_,?_,HNEW.out,HBN.out⟩
     ·show Lt3.mk z.n z.l z.r=_;rw[HZ.out.1,HZ.out.2.1,HZ.out.2.2,HA.out.1,HA.out.2.1,HA.out.2.2.1];rfl
     ·rw[HQ.out.2.2,HX.out.2,if_neg (fun e=>e (HA.out.2.2.2))]
    case measure=>simp[intOf];omega
   ·have HR:=ae (show acE s (t3s P)=apK s x/\acL s (t3s P)=[] from by
     have h:acE s (t3s P)=apK s x:=by rw[HE.out,HQ.out.2.2,HX.out.2,if_pos (by rw[←avE];exact h0)];rfl
     exact⟨h,apA (by rw[h];exact h0)⟩)
    obtain⟨m,hm⟩:∃m,apK s x=m:=⟨_,rfl⟩;rw[hm] at h0 HR ⊢;have h2:(m != 0)=true:=by simpa using h0
    clear h0 hm
    go_wp2_with fail
    refine bodyPost_ret (v:= .tuple #[.slice none 0 0,.int .i64 m]) (by simp[results,Tryz.results104,go_sem]) rfl ?_;exact⟨[],none,0,HR.out.2.symm,by rw[HR.out.1];rfl,aaV.nil _ _ _ (by simp[maxLen]),HBN.out⟩
  ·obtain rfl:k=P.length:=by omega
   have HR:=ae (show acE s (t3s P)=0/\acL s (t3s P)=t3s Q from by
    have h:acE s (t3s P)=0:=by rw[HE.out,HQ.out.2.2,List.drop_of_length_le (by simp)];rfl
    refine⟨h,?_⟩;rw[(agO h).2.2,HQ.out.2.1,List.take_length])
   have hO:=HO.out;rw[Nat.sub_self,List.replicate_zero,List.append_nil] at hO;obtain⟨pa,ca,e,hcl⟩:=hO.args (fun b hk=>hk.1);rw[HQ.out.1] at e;have HR2:=ae (And.intro e hcl);clear hO e hcl;go_wp2;refine bodyPost_ret (v:= .tuple #[.slice (some ⟨w.heap.size,0,none⟩) P.length P.length,.int .i64 0]) (by simp[results,Tryz.results104,go_sem]) rfl ?_;exact⟨Q,pa,ca,HR.out.2.symm,by rw[HR.out.1,HR2.out.1,HQ.out.1],HR2.out.2,HB.out⟩
open Go.Maps
def aqc(t:T)(w:World)(e:Ending)(w':World):Prop:=∃M,e= .returned (.map (some M))/\w.heap.size<=M/\afo w' M t.hds/\Below w.heap.size w w'
def av0(aM:Nat)(w:World)(t:T)(gk:Nat)(st:Value)(wr:World):Prop:=
 ∃S L,HdC aM w (w.heap.size+1) (w.heap.size+2) (w.heap.size+3) st S L wr/\ajT S=gk/\(L++adn S).Perm t.hds
def aw7(aM:Nat)(w:World)(t:T)(ts:List T)(gk:Nat)(st i:Value)(wr:World):Prop:=
 ∃k S L,k<=ts.length/\i= .int .i64 (k:Nat)/\HdC aM w (w.heap.size+1) (w.heap.size+2) (w.heap.size+3) st S L wr/\ajT S+T.sizes (ts.drop k)+k<=gk/\(L++adn S++T.hdsL (ts.drop k)).Perm t.hds
theorem aqd(t:T)(ht:t.size<=1000000000000)(aM:Nat)(a:Option Addr)(c:Nat)(w:World)(hn:aM<=w.heap.size)(hwf:(Lit.int .i64 t.head).wf=true)(hA:aab aM w t.args a c):
 Calls Tryz.prog 206 #[tm t.head a t.args.length c] w (aqc t w):=by
 have HWF:=ae hwf;have HA:=ae hA;clear hwf hA;obtain⟨i0,hi,hz0,hz1,hz2⟩:=info_parts ave;have hmm:=@run_makeMap Tryz.prog;go_enter Tryz.func206,Tryz.ntmps206;go_wp2
 have hst:av0 aM w t (T.sizes [t]) (.slice (some ⟨w.heap.size+1+1+1,0,none⟩) 1 1) ((((w.alloc (aaa t.head a t.args.length c)).alloc (.map #[] 0)).alloc (aaa t.head a t.args.length c)).alloc (.cells #[.slice (some ⟨w.heap.size+1+1,0,none⟩) 1 1] 58)):=by
  obtain⟨w1,hw1⟩:∃w1,w.alloc (aaa t.head a t.args.length c)=w1:=⟨_,rfl⟩;have hs1:w1.heap.size=w.heap.size+1:=by rw[←hw1];simp
  have hB1:Below w.heap.size w w1:=by rw[←hw1];exact(ag _ w).alloc (af _) _
  rw[hw1];obtain⟨w2,hw2⟩:∃w2,w1.alloc (.map #[] 0)=w2:=⟨_,rfl⟩;have hm2:afo w2 (w.heap.size+1) []:=by rw[←hw2,←hs1];exact afo.made w1
  have hs2:w2.heap.size=w.heap.size+2:=by rw[←hw2];simp;omega
  have hB2:Below w.heap.size w w2:=by rw[←hw2];exact hB1.alloc (by omega) _
  rw[hw2];obtain⟨w3,hw3⟩:∃w3,w2.alloc (aaa t.head a t.args.length c)=w3:=⟨_,rfl⟩;have hb3:w3.heap[w.heap.size+2]? =some (aaa t.head a t.args.length c):=by rw[←hw3,←hs2];exact heap_alloc_new w2 _
  have hs3:w3.heap.size=w.heap.size+3:=by rw[←hw3];simp;omega
  have hB3:Below w.heap.size w w3:=by rw[←hw3];exact hB2.alloc (by omega) _
  have hm3:afo w3 (w.heap.size+1) []:=hm2.kept (by rw[←hw3];exact az _ _ _ (by omega));rw[hw3];obtain⟨w4,hw4⟩:∃w4,w3.alloc (.cells #[.slice (some ⟨w.heap.size+1+1,0,none⟩) 1 1] 58)=w4:=⟨_,rfl⟩;have hb4:w4.heap[w.heap.size+2]? =some (aaa t.head a t.args.length c):=by rw[←hw4];exact(az _ _ _ (by omega)).trans hb3
  have hc4:w4.heap[w.heap.size+3]? =some (.cells #[.slice (some ⟨w.heap.size+1+1,0,none⟩) 1 1] 58 (0,0)):=by rw[←hw4,←hs3];exact heap_alloc_new w3 _
  have hs4:w4.heap.size=w.heap.size+4:=by rw[←hw4];simp;omega
  have hB4:Below w.heap.size w w4:=by rw[←hw4];exact hB3.alloc (by omega) _
  have hm4:afo w4 (w.heap.size+1) []:=hm3.kept (by rw[←hw4];exact az _ _ _ (by omega));rw[hw4]
  have hrow:aav (fun b=>b<aM\/b=w.heap.size+2) w4 [t] (w.heap.size+2) 0:=by
   simp only[aav,and_true];exact abO.2 ⟨HWF.out,by simp[World.cell?,hb4],a,c,by simp[World.cell?,hb4],(aao.2 (HA.out.below (hB4.mono hn))).mono (fun b hb=> .inl hb)⟩
  refine⟨[([t],some ⟨w.heap.size+2,0,none⟩,1)],[],⟨?_,?_,hm4,hB4,by omega,by omega⟩,by simp[ajT],by simp[adn,T.hdsL]⟩
  ·exact⟨by simp[alu],.inr ⟨w.heap.size+3,1,_,rfl,af _,hc4,af _,by simp[maxLen],rfl,rfl⟩⟩
  ·intro e he;simp at he;subst he;exact⟨⟨af _,by simp[maxLen],.inr ⟨w.heap.size+2,0,rfl,.inr rfl,hrow⟩⟩,by simp⟩
 have HST:=ae hst;generalize (((w.alloc (aaa t.head a t.args.length c)).alloc (.map #[] 0)).alloc (aaa t.head a t.args.length c)).alloc (.cells #[.slice (some ⟨w.heap.size+1+1,0,none⟩) 1 1] 58)=w4 at*;clear hst
 go_loopg [4] (T.sizes [t]) (fun gk st wr=>av0 aM w t gk st wr)
 case atStart=>exact HST.out
 case round=>
  clear HST;obtain⟨S,L,hS,hgk,hp⟩:=hrel;have HP:=ae hp;have HGK:=ae hgk;clear hgk hp
  rcases List.eq_nil_or_concat S with rfl|⟨S0,⟨ts,a',c'⟩,rfl⟩
  ·obtain⟨a3,c3,rfl⟩:=hS.nilStack;have HS:=ae hS;clear hS;go_wp2;go_ret;exact⟨_,rfl,by omega,HS.out.map.perm (by simpa[adn] using HP.out),HS.out.below⟩
  ·simp only[List.concat_eq_append] at hS;have hpp:=HP.out;simp only[List.concat_eq_append,aj4,←List.append_assoc] at hpp;have hgg:=HGK.out;simp only[List.concat_eq_append,aj3] at hgg;obtain⟨hE,hne⟩:=hS.ents (ts,a',c') (by simp);dsimp only at hE hne hpp hgg;obtain⟨gs,cap,rfl,hcap,hcm,hcell,hC⟩:=hS.stack;have hin:aw7 aM w t ts gk (.slice (some ⟨gs,0,none⟩) S0.length cap) (.int .i64 ((0:Nat):Int)) wr:=⟨0,S0,L,Nat.zero_le _,rfl,hC,by simp;omega,by simpa using hpp⟩;have hpl:=hpp.length_eq;simp only[aK,T.hds_length,T.hdsL_length] at hpl;have HIN:=ae hin;have hlt:0<ts.length:=List.length_pos_iff.2 hne;have hlm:ts.length<=1000000000000:=by have h1:=T.sizes_ge_length ts;omega
   have hs0:S0.length<=1000000000000:=by
    have h1:=hC.len;have h2:=aga S0;omega
   have hcc:c'<=maxLen:=hE.2.1;have hlc:ts.length<=c':=hE.1;have HE:=ae (fun(W:World) (hW:∀b,(b<aM\/b=w.heap.size+2)->W.heap[b]? =wr.heap[b]?)=>hE.keep hW (fun _ x=>x));unfold maxLen at hcm hcc;clear hin hS hE hC hpp hpl;go_wp2
   go_loopw [4,28] (fun st i wq=>aw7 aM w t ts gk st i wq/\∀b,(b<aM\/b=w.heap.size+2)->wq.heap[b]? =wr.heap[b]?) (fun _ i _=>ts.length-(intOf i).toNat)
   case atStart=>exact⟨HIN.out,fun _ _=>rfl⟩
   case round=>
    clear HIN hcell;obtain⟨⟨k,S,L,hk,rfl,hC,hM,hP⟩,hkp⟩:=hrel;have hpl:=hP.length_eq;simp only[aK,T.hds_length,T.hdsL_length,aga] at hpl;have hEr:=HE.out wr hkp;by_cases hlk:k<ts.length
    ·obtain⟨b,o,s,a1,c1,rfl,hbk,hs,hswf,hc0,hc1,hA'⟩:=hEr.elem hlk;have hsd:=T.sizes_drop hs;have hsq:=T.size_eq s;have hsl2:=T.sizes_ge_length s.args;have hsa:s.args.length<=1000000000000:=by omega
     have hSl:S.length+1<=1000000000000:=by have:=hC.len;omega
     have hhd:=T.hdsL_drop hs
     have hP2:(s.head::L++(adn S++T.hdsL s.args)++T.hdsL (ts.drop (k+1))).Perm t.hds:=by
      refine List.Perm.trans ?_ hP;rw[hhd,T.hds_eq];simp only[List.cons_append,List.append_assoc];rw[show L++(adn S++s.head::(T.hdsL s.args++T.hdsL (ts.drop (k+1))))=(L++adn S)++s.head::(T.hdsL s.args++T.hdsL (ts.drop (k+1))) from by simp];refine List.Perm.trans ?_ (List.perm_middle).symm;simp
     have hbw:b<wr.heap.size:=World.block_lt_of_cell? wr ⟨b,_,none⟩ hc0;obtain⟨W1,hW1⟩:∃W1,wr.alloc (.cells #[.int .i64 s.head,.slice a1 s.args.length c1] 60)=W1:=⟨_,rfl⟩;have hBl:Below wr.heap.size wr W1:=by rw[←hW1];exact(ag _ wr).alloc (af _) _
     have hC1:=hC.later hn hBl;have hs1:W1.heap.size=wr.heap.size+1:=by rw[←hW1];simp
     have hws:=hC.below.size;have hbM:w.heap.size+1<wr.heap.size:=hC.map.lt;have hd0:W1.cell? ⟨wr.heap.size,0,none⟩=some (.int .i64 s.head):=by rw[←hW1];simp[go_sem]
     have hd1:W1.cell? ⟨wr.heap.size,1,none⟩=some (.slice a1 s.args.length c1):=by rw[←hW1];simp[go_sem]
     have hlook:=hC1.map.look (ahK hswf);obtain⟨w5,hput,hm5,hg5⟩:=hC1.map.put (ahK hswf) (by omega);have hcl:L.count s.head<=L.length:=List.count_le_length;have hC5:=hC1.put hn (by omega) (by omega) (by omega) hm5 hg5;have hd0':w5.cell? ⟨wr.heap.size,0,none⟩=some (.int .i64 s.head):=(aq (a:=⟨wr.heap.size,0,none⟩) (hg5.block wr.heap.size (by omega) (by simp;omega))).trans hd0;have hd1':w5.cell? ⟨wr.heap.size,1,none⟩=some (.slice a1 s.args.length c1):=(aq (a:=⟨wr.heap.size,1,none⟩) (hg5.block wr.heap.size (by omega) (by simp;omega))).trans hd1
     have hok5:∀b,(b<aM\/b=w.heap.size+2)->w5.heap[b]? =wr.heap[b]? :=fun q hq=>
      (hg5.block q (by have:=hC.lt.1;rcases hq with hq|rfl<;>omega) (by simp;omega)).trans (hBl.block q (by have:=hC.lt.1;rcases hq with hq|rfl<;>omega))
     have hA5:aaj (fun b=>b<aM\/b=w.heap.size+2) w5 s.args a1 c1:=hA'.keep hok5 (fun _ x=>x);have hq:L.count s.head<=1000000000000:=by omega
     generalize L.count s.head=q at hlook hput hq;have HC5:=ae hC5;have HA5:=ae hA5;have HP2:=ae hP2;have HOK5:=ae (fun b hb=>(hok5 b hb).trans (hkp b hb));have HM:=ae hM;have HSD:=ae hsd;have HSQ:=ae hsq;clear hC hM hP hkp hpl hEr hswf hA' hhd hP2 hBl hC1 hm5 hg5 hcl hC5 hok5 hA5 hsd hsq hsl2 hs hs1;by_cases hnil:s.args.length=0
     ·have hnil2:s.args=[]:=aC hnil;have HNL:=ae hnil2;clear hnil2;have hz:¬0<s.args.length:=by omega
      clear hnil;go_wp2
      go_roundw
      case rel=>
       refine⟨⟨k+1,S,s.head::L,by omega,by go_num,HC5.out,?_,?_⟩,HOK5.out⟩
       ·have:=HM.out;have h2:=HSD.out;have h3:=HSQ.out;omega
       ·have:=HP2.out;rw[HNL.out] at this;simpa[T.hdsL] using this
      case measure=>simp[intOf];omega
     ·have hz:0<s.args.length:=by omega
      have HNL:=ae (show s.args≠[] from fun e=>hnil (by rw[e];rfl));clear hnil
      go_wp2_with (at_builtin;refine aaG ?_)
      refine ae ?_;refine wpList_append_own _ rfl _ _ 176 rfl (w.heap.size+3) 58 i0 (.slice none 0 0) 1 24 Tryz.underlying176 hi hz0 hz1 hz2 rfl (by decide) u4 S.length (alu S) rfl (HC5.out.own.alloc _) ⟨w5.heap.size,0,none⟩ 1 1 [.slice a1 s.args.length c1] rfl rfl (abJ _ _ _ _ (by simp)) (by simp[Value.oneCell']) (by unfold maxLen;omega) (by omega) (by have:=HC5.out.lt.2;simp;omega) ?_;intro v' w7 hown hgr _;have HO7:=ae hown;have HG7:=ae hgr
      have HOK7:=ae (show ∀b,(b<aM\/b=w.heap.size+2)->w7.heap[b]? =w5.heap[b]? from fun q hq=>by
       have h1:=HC5.out.lt.1;have h2:=HC5.out.below.size;have h3:q<w5.heap.size:=by rcases hq with hq|hq<;>omega
       exact(hgr.block q (by simp;omega) (fun e=>by have:=own_ge HC5.out.own e.symm;rcases hq with hq|hq<;>omega)).trans (az _ _ _ h3))
      clear hown hgr;go_wp2
      go_roundw
      case rel=>
       refine⟨⟨k+1,S++[(s.args,a1,c1)],s.head::L,by omega,by go_num,HC5.out.push hn (by omega) (by omega) (by omega) (by omega) HA5.out HNL.out HO7.out HG7.out,?_,?_⟩,fun b hb=>(HOK7.out b hb).trans (HOK5.out b hb)⟩
       ·rw[aj3];have:=HM.out;have h2:=HSD.out;have h3:=HSQ.out;dsimp only;omega
       ·rw[aj4,←List.append_assoc];have:=HP2.out;simpa[←List.append_assoc] using this
      case measure=>simp[intOf];omega
    ·obtain rfl:k=ts.length:=by omega
     have HC:=ae hC;have HP3:=ae hP;have HM:=ae hM;clear hC hP hM hkp hEr hpl;go_wp2
     go_roundg (ajT S)
     case measure=>have:=HM.out;omega
     case rel=>exact⟨S,L,HC.out,rfl,by simpa[T.hdsL] using HP3.out⟩
theorem akP(g:Sg)(h:Int)(hs:inS g h)(aM:Nat)(ga:Option Addr)(gc:Nat)(w:World)(hn:aM<=w.heap.size)(hG:aaX aM w g ga gc):
 Calls Tryz.prog 207 #[.slice ga g.length gc,.int .i64 h] w fun e w'=>e= .returned (.int .i64 (wo g h))/\w'=w:=by
 have hlg:g.length<=gc/\gc<=maxLen:=⟨hG.1,hG.2.1⟩;unfold maxLen at hlg;obtain⟨hl3,hl4⟩:=hlg;by_cases q:h<0
 ·have HD:=ae (show wo g h=1 from by unfold wo;rw[if_pos q]);go_enter Tryz.func207,Tryz.ntmps207;go_wp2;go_ret;exact⟨by rw[HD.out];rfl,rfl⟩
 ·have hk:h.toNat<g.length:=by rcases hs with hs|hs;omega;exact hs
  obtain⟨b,o,x,rfl,hbn,hsx,hxw,hc0,hc1,hc2,hc3⟩:=hG.elem (i:=h.toNat) hk;have HD:=ae (show wo g h=x.wt from by unfold wo;rw[if_neg q,hsx]);have h0:0<=h:=by omega
  have h1:h<(g.length:Int):=by omega
  clear hG hsx hxw;go_enter Tryz.func207,Tryz.ntmps207;go_wp2;go_ret;exact⟨by rw[HD.out];rfl,rfl⟩
theorem ait(g:Sg)(t:T)(hsz:t.size<=1000000000000)(aM:Nat)(ga:Option Addr)(gc:Nat)(a:Option Addr)(c:Nat)(w:World)(hn:aM<=w.heap.size)(hG:aaX aM w g ga gc)(hwf:(Lit.int .i64 t.head).wf=true)(hA:aab aM w t.args a c):
 Calls Tryz.prog 173 #[.slice ga g.length gc,tm t.head a t.args.length c] w fun e w'=>e= .returned (ac0 g t)/\Below w.heap.size w w':=by
 obtain⟨W1,hW1⟩:∃W1,w.alloc (aaa t.head a t.args.length c)=W1:=⟨_,rfl⟩;have hF1:Below w.heap.size w W1:=by rw[←hW1];exact(ag _ w).alloc (af _) _
 have HF1:=ae hF1;have LT:=ae (show aai (fun X=>Vc w.heap.size t.head a t.args.length c X) W1 from by rw[←hW1];exact aaP w _ _ _ _);have CT:=ae (fun(W:World) (hW:Below w.heap.size w W)=>adC g t hsz aM ga gc a c W (aE hn hW.size) (hG.below (hW.mono hn)) hwf (hA.below (hW.mono hn)));have CH:=ae (fun(W:World) (hW:Below w.heap.size w W)=>aqd t hsz aM a c W (aE hn hW.size) hwf (hA.below (hW.mono hn)));have CW:=ae (fun(h:Int) (hs:inS g h) (W:World) (hW:Below w.heap.size w W)=>akP g h hs aM ga gc W (aE hn hW.size) (hG.below (hW.mono hn)));have hlg:g.length<=gc/\gc<=maxLen:=⟨hG.1,hG.2.1⟩;unfold maxLen at hlg;obtain⟨hv0,hv1⟩:=LT.out.now;clear hF1 hG hA;go_enter Tryz.func173,Tryz.ntmps173
 go_wp2_with fail
 refine(CT.out _ HF1.out).mono ?_;rintro e w2 ⟨rfl,hb2⟩;have hB2:Below w.heap.size w w2:=HF1.out.trans (hb2.mono HF1.out.size);have LT2:=ae (LT.out.mv hb2);have HB2:=ae hB2;clear hb2 hB2 LT hW1 hv0 hv1;by_cases h0:aaH g t=0
 ·have HV:=ae (show ac0 g t= .tuple #[.int .i64 (wtT g t),.int .i64 0] from by unfold ac0;rw[if_pos h0]);obtain⟨hr,hck,hft,hpr⟩:=aaR h0;have HSZ:=ae (aam hck).1;have HIS:=ae (aeS t hft (aam hck).2.2);have HWO:=ae (fun(h:Int) (hm:h∈t.hds)=>acZ hr (HIS.out h hm));rw[h0];have hv:=LT2.out.now;obtain⟨hv0,hv1⟩:=hv;clear h0 hr hck hft hpr
  go_wp2_with fail
  refine(CH.out _ HB2.out).mono ?_;rintro e w3 ⟨M,rfl,hM1,hM2,hb3⟩;have HB3:=ae (HB2.out.trans (hb3.mono HB2.out.size));obtain⟨D,hown,hD,hwfs⟩:=hM2;have HD:=ae hD;have HWF:=ae hwfs;have hMw:w.heap.size<=M:=by have:=HB2.out.size;omega
  clear hb3 LT2 hv0 hv1 hD hwfs
  go_wp2_with (first|(at_range;refine wpList_range_own _ rfl _ 168 rfl 3 3 ahu Tryz.underlying168 _ M _ D rfl hown ?_;intro w4 hrg0 hg0 hs0))
  go_frame
  have hBr:Below w.heap.size w w4:=HB3.out.grown hg0 HB3.out.size (fun k e=>by cases e);have hall0:∀h∈t.hds,Maps.has D (.int .i64 h)=true:=fun h hm=>by rw[(HD.out h (HWF.out h hm)).1];simp[hm]
  have HST:=ae (show ∃(left:Lit->Bool) (cnt:Nat),w4.ranges Tryz.prog 3 (plainElem Tryz.prog 3) M w3.heap.size t.hds.length D left cnt/\Value.int .i64 0= .int .i64 (ahL (wo g) left t.hds)/\Below w.heap.size w w4 from
   ⟨_,_,hrg0,by rw[ahM hall0],hBr⟩)
  have h3w:w.heap.size<=w3.heap.size:=HB3.out.size;clear hrg0 hg0 hs0 hBr hall0 hown
  go_loopw [7] (fun sv wr=>∃(left:Lit->Bool) (cnt:Nat),wr.ranges Tryz.prog 3 (plainElem Tryz.prog 3) M w3.heap.size t.hds.length D left cnt/\sv= .int .i64 (ahL (wo g) left t.hds)/\Below w.heap.size w wr) (fun _ wr=>wr.rangeLeft M w3.heap.size)
  case atStart=>exact HST.out
  case round=>
   clear HST;obtain⟨left,cnt,hrg,rfl,hB⟩:=hrel;have HB:=ae hB;clear hB
   go_wp2_with (first|(at_next;refine wpList_next_ranges_ii _ rfl _ rfl 3 3 .i64 .i64 ahu Tryz.underlying3 Tryz.underlying3 M w3.heap.size _ _ _ _ rfl hrg ?_ ?_))
   ·intro hc0 hl0;have HE:=ae (show ahL (wo g) left t.hds=wtT g t from by rw[aiT hl0,aem]);generalize ahL (wo g) left t.hds=q at*;go_wp2;refine bodyPost_ret (v:= .tuple #[.int .i64 q,.int .i64 0]) (by simp[results,Tryz.results173,go_sem]) rfl ?_;exact⟨by rw[HV.out,HE.out],HB.out⟩
   ·intro x cv w5 cnt1 hwx hwc hlx hat hrg1 hlt hg1 hs1 hen;have hB5:Below w.heap.size w w5:=HB.out.grown hg1 HB.out.size (fun j hj=>by cases hj;exact h3w);obtain⟨hxm,rfl⟩:=afo.entry HD.out hwx hat;have hstep:=aj5 (f:=wo g) hlx (L:=t.hds);have hbd:=aeR (f:=wo g) (left:=left) (L:=t.hds) (fun h hm=>by have:=HWO.out h hm;omega);have hcl:t.hds.count x<=t.hds.length:=List.count_le_length;have hwo:=HWO.out x hxm;have hln:=T.hds_length t;have hszz:=HSZ.out;have hmul:=aoO (t.hds.count x) (wo g x) (by omega) (by omega) (by omega);have HRG:=ae hrg1;have HR0:=ae hrg;have HB5:=ae hB5;have hisx:=HIS.out x hxm;have HCW:=ae (CW.out x hisx w5 HB5.out);have hs5:(0:Int)<=ahL (wo g) left t.hds/\ahL (wo g) left t.hds<=400000:=by omega
    obtain⟨q,hq⟩:∃q,ahL (wo g) left t.hds=q:=⟨_,rfl⟩;obtain⟨qc,hqc⟩:∃qc,t.hds.count x=qc:=⟨_,rfl⟩;obtain⟨qw,hqw⟩:∃qw,wo g x=qw:=⟨_,rfl⟩;rw[hq,hqc,hqw] at hstep;rw[hq] at hs5 ⊢;rw[hqc,hqw] at hmul;rw[hqc] at hen ⊢;rw[hqw] at HCW;have HSTEP:=ae hstep;clear hrg1 hstep hB5 hat hbd hwx hwc hlx hcl hrg hln hq hqc hqw hwo
    go_wp2_with fail
    refine HCW.out.mono ?_;rintro e w6 ⟨rfl,rfl⟩;go_wp2
    go_roundw
    case rel=>
     refine⟨fun z=>left z&& !z.sameKey (.int .i64 x),cnt1,HRG.out,?_,HB5.out⟩;rw[HSTEP.out]
    case measure=>rw[HRG.out.left_eq,HR0.out.left_eq];exact hlt
 ·have HV:=ae (show ac0 g t= .tuple #[.int .i64 0,.int .i64 (aaH g t)] from by unfold ac0;rw[if_neg h0]);obtain⟨k,hk⟩:∃k,aaH g t=k:=⟨_,rfl⟩;have hk0:(k != 0)=true:=by rw[←hk];simpa using h0
  rw[hk];rw[hk] at HV;clear h0 hk;go_wp2;refine bodyPost_ret (v:= .tuple #[.int .i64 0,.int .i64 k]) (by simp[results,Tryz.results173,go_sem]) rfl ?_;exact⟨by rw[HV.out],HB2.out⟩
end Go.Proofs.YtabfapijgfjflaaGreat
