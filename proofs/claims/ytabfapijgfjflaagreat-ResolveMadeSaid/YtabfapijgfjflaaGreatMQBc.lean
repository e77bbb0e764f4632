import Derived.Test.YtabfapijgfjflaaGreatMQBb
import Derived.Test.YtabfapijgfjflaaGreatMQBa
import Derived.Shelf.SlicesQ.IndexFunc
import Derived.Laws.StructEq
import Derived.Lib.QuietBelow
import Derived.Deep.QuietTactic
import Derived.BigQuiet
import Derived.WalkSmall
import Derived.Test.YtabfapijgfjflaaGreatMAl
set_option linter.unusedVariables false
set_option linter.unusedSimpArgs false
set_option maxRecDepth 100000
set_option maxHeartbeats 2000000
namespace Go.Proofs.YtabfapijgfjflaaGreat
open Go.RowKit
structure Sy where
 name:ByteArray
 ar:Int
 wt:Int
 tr:Bool
 deriving DecidableEq
abbrev Sg:=List Sy
def Sy.cells(x:Sy):List Value:=[.string x.name,.int .i64 x.ar,.int .i64 x.wt,.bool x.tr]
abbrev sy(x:Sy):Value:= .agg #[.string x.name,.int .i64 x.ar,.int .i64 x.wt,.bool x.tr]
def Sy.wf(x:Sy):Prop:=x.name.size<=maxLen/\(Lit.int .i64 x.ar).wf=true/\(Lit.int .i64 x.wt).wf=true
def awM(W:World)(x:Sy)(b o:Nat):Prop:=
 x.wf/\W.cell? ⟨b,o,none⟩=some (.string x.name)/\W.cell? ⟨b,o+1,none⟩=some (.int .i64 x.ar)/\W.cell? ⟨b,o+2,none⟩=some (.int .i64 x.wt)/\W.cell? ⟨b,o+3,none⟩=some (.bool x.tr)
def aaX(aM:Nat)(W:World)(g:Sg)(a:Option Addr)(c:Nat):Prop:=
 g.length<=c/\c<=maxLen/\(g=[]\/∃b o,a=some ⟨b,o,none⟩/\b<aM/\∀(j:Nat) (x:Sy),g[j]? =some x->awM W x b (o+j*4))
theorem aaX.below{aM:Nat}{w w':World}{g:Sg}{a:Option Addr}{c:Nat}(h:aaX aM w g a c)(hb:Below aM w w'):aaX aM w' g a c:=by
 obtain⟨h1,h2,h3⟩:=h;refine⟨h1,h2,?_⟩
 rcases h3 with h3|⟨b,o,h4,h5,h6⟩
 ·exact .inl h3
 ·refine .inr ⟨b,o,h4,h5,fun j x hx=> ?_⟩;obtain⟨p0,p1,p2,p3,p4⟩:=h6 j x hx;exact⟨p0,(hb.cell (p:=⟨b,_,none⟩) h5).trans p1,(hb.cell (p:=⟨b,_,none⟩) h5).trans p2,(hb.cell (p:=⟨b,_,none⟩) h5).trans p3,(hb.cell (p:=⟨b,_,none⟩) h5).trans p4⟩
theorem aaX.mono{aM aN:Nat}{w:World}{g:Sg}{a:Option Addr}{c:Nat}(h:aaX aM w g a c)(hn:aM<=aN):aaX aN w g a c:=by
 obtain⟨h1,h2,h3⟩:=h;refine⟨h1,h2,?_⟩
 rcases h3 with h3|⟨b,o,h4,h5,h6⟩
 ·exact .inl h3
 ·exact .inr ⟨b,o,h4,by omega,h6⟩
theorem acS{W:World}{g:Sg}{a:Option Addr}{c:Nat}(h:aaX W.heap.size W g a c):aai (fun X=>aaX X.heap.size X g a c) W:=fun X hX=>(h.below hX).mono hX.size
theorem aaX.elem{aM:Nat}{w:World}{g:Sg}{a:Option Addr}{c:Nat}(h:aaX aM w g a c){i:Nat}(hi:i<g.length):
 ∃(b o:Nat) (x:Sy),a=some ⟨b,o,none⟩/\b<aM/\g[i]? =some x/\x.wf/\w.cell? ⟨b,o+i*4,none⟩=some (.string x.name)/\w.cell? ⟨b,o+i*4+1,none⟩=some (.int .i64 x.ar)/\
  w.cell? ⟨b,o+i*4+2,none⟩=some (.int .i64 x.wt)/\w.cell? ⟨b,o+i*4+3,none⟩=some (.bool x.tr):=by
 obtain⟨_,_,h3⟩:=h
 rcases h3 with rfl|⟨b,o,rfl,h4,h5⟩
 ·simp at hi
 ·obtain⟨p0,p1,p2,p3,p4⟩:=h5 i _ (ai hi);exact⟨b,o,g[i],rfl,h4,ai hi,p0,p1,p2,p3,p4⟩
def acT(x:Sy):Bool:=decide (x.name.size<1)||decide (64<x.name.size)||decide (x.ar<0)||decide (8<x.ar)||decide (x.wt<1)||decide (1000<x.wt)
def adi(name:ByteArray):Sg->Option Nat
 |[]=>none
 |x::g=>if x.name=name then some 0 else(adi name g).map (· +1)
theorem adm{name:ByteArray}:∀{g:Sg} {i:Nat},adi name g=some i->∃x,g[i]? =some x/\x.name=name/\∀(j:Nat) (y:Sy),j<i->g[j]? =some y->y.name≠name
 |[],i,h=>by simp[adi] at h
 |x::g,i,h=>by
  simp only[adi] at h;split at h
  ·rename_i hx;obtain rfl:=Option.some.inj h;exact⟨x,rfl,hx,fun j y hj=>by omega⟩
  ·rename_i hx;rw[Option.map_eq_some_iff] at h;obtain⟨k,hk,rfl⟩:=h;obtain⟨y,h1,h2,h3⟩:=adm hk;refine⟨y,by simpa using h1,h2,fun j z hj hz=> ?_⟩;cases j with
   |zero=>simp at hz;subst hz;exact hx
   |succ j=>exact h3 j z (by omega) (by simpa using hz)
theorem aeQ{name:ByteArray}:∀{g:Sg},adi name g=none->∀x∈g,x.name≠name
 |[],h=>by simp
 |x::g,h=>by
  simp only[adi] at h;split at h
  ·cases h
  ·rename_i hx;have:=aeQ (Option.map_eq_none_iff.1 h);intro y hy
   rcases List.mem_cons.1 hy with rfl|hy
   ·exact hx
   ·exact this y hy
theorem aj1{name:ByteArray}:∀{g:Sg} {k:Nat} {x:Sy},(∀(j:Nat) (y:Sy),j<k->g[j]? =some y->y.name≠name)->g[k]? =some x->x.name=name->adi name g=some k
 |[],k,x,_,h,_=>by simp at h
 |y::g,0,x,_,h,hx=>by simp at h;subst h;simp[adi,hx]
 |y::g,k+1,x,hno,h,hx=>by
  have h0:=hno 0 y (by omega) rfl;have:=aj1 (g:=g) (k:=k) (fun j z hj hz=>hno (j+1) z (by omega) (by simpa using hz)) (by simpa using h) hx;simp[adi,h0,this]
def ahq(g:Sg):Bool:=(List.range g.length).all fun i=>match g[i]? with
 |some x=>decide (adi x.name g=some i)
 |none=>true
def sy0:Sy:={ name:=⟨#[36,116,114,117,101]⟩,ar:=0,wt:=1,tr:=true}
def aan(g:Sg):Bool:=decide (1<=g.length)&&decide (g.length<=256)&&decide (g[0]? =some sy0)&& !(g.any acT)&&ahq g
def ahr(g:Sg):Int:=if aan g then 0 else 1
def acU(g:Sg)(h:Int)(n:Nat):Bool:=decide (h<0)||match g[h.toNat]? with
 |some x=>decide ((n:Int)=x.ar)
 |none=>false
mutual
def aaL(g:Sg):T->Bool
 | .node h ts=>decide (h<0)||(acU g h ts.length&&af5 g ts)
def af5(g:Sg):List T->Bool
 |[]=>true
 |t::ts=>aaL g t&&af5 g ts
end
theorem aa4(g:Sg)(t:T):aaL g t=(decide (t.head<0)||(acU g t.head t.args.length&&af5 g t.args)):=by cases t;rfl
theorem abV(g:Sg)(ts:List T):af5 g ts=ts.all (aaL g):=by
 induction ts with
 |nil=>rfl
 |cons t ts ih=>simp[af5,ih]
def aap(g:Sg)(h:Int):Bool:=decide (0<=h)&&match g[h.toNat]? with
 |some x=>x.tr
 |none=>false
mutual
def adQ(g:Sg):T->Bool
 | .node h ts=>aap g h||abu g ts
def abu(g:Sg):List T->Bool
 |[]=>false
 |t::ts=>adQ g t||abu g ts
end
theorem abc(g:Sg)(t:T):adQ g t=(aap g t.head||abu g t.args):=by cases t;rfl
theorem aaY(g:Sg)(ts:List T):abu g ts=ts.any (adQ g):=by
 induction ts with
 |nil=>rfl
 |cons t ts ih=>simp[abu,ih]
def aaH(g:Sg)(t:T):Int:=if aan g then if t.check=0 then if aaL g t then if abu g t.args then 10 else 0 else 1 else t.check else 1
def wo(g:Sg)(h:Int):Int:=if h<0 then 1 else match g[h.toNat]? with
 |some x=>x.wt
 |none=>0
mutual
def wtT(g:Sg):T->Int
 | .node h ts=>wo g h+wtL g ts
def wtL(g:Sg):List T->Int
 |[]=>0
 |t::ts=>wtT g t+wtL g ts
end
theorem avb(g:Sg)(t:T):wtT g t=wo g t.head+wtL g t.args:=by cases t;rfl
end Go.Proofs.YtabfapijgfjflaaGreat
namespace Go.Proofs
open Go.Shelf
def Tryz.idxSym_ren : Go.Shelf.Ren := ⟨fun | 6 => 134 | n => n, fun | 22 => 22 | 23 => 80 | 25 => 131 | 3 => 3 | 0 => 0 | 4 => 4 | n => n, fun | n => n⟩
theorem Tryz.idxSym : Go.Proofs.SlLaysH0.n6 Tryz.prog Tryz.idxSym_ren := {
  mixed := by kernel_rfl
  f6 := ⟨Tryz.f134.name, by decide, Tryz.func134.trans (congrArg some (by kernel_rfl))⟩
  t0 := Tryz.underlying0
  a0 := Tryz.isAgg0
  z0 := Tryz.sizeOf0
  v0 := Tryz.zeroValue0
  t3 := Tryz.underlying3
  a3 := Tryz.isAgg3
  z3 := Tryz.sizeOf3
  v3 := Tryz.zeroValue3
  t4 := Tryz.underlying4
  a4 := Tryz.isAgg4
  z4 := Tryz.sizeOf4
  v4 := Tryz.zeroValue4
  t22 := Tryz.underlying22
  a22 := Tryz.isAgg22
  z22 := Tryz.sizeOf22
  v22 := Tryz.zeroValue22
  t25 := Tryz.underlying131
  a25 := Tryz.isAgg131
  z25 := Tryz.sizeOf131
  v25 := Tryz.zeroValue131 }
def Tryz.conSym_ren : Go.Shelf.Ren := ⟨fun | 8 => 88 | 6 => 134 | n => n, fun | 22 => 22 | 23 => 80 | 25 => 131 | 4 => 4 | 3 => 3 | 0 => 0 | n => n, fun | n => n⟩
theorem Tryz.conSym : Go.Proofs.SlLaysH0.n8 Tryz.prog Tryz.conSym_ren := {
  mixed := by kernel_rfl
  f6 := ⟨Tryz.f134.name, by decide, Tryz.func134.trans (congrArg some (by kernel_rfl))⟩
  f8 := ⟨Tryz.f88.name, by decide, Tryz.func88.trans (congrArg some (by kernel_rfl))⟩
  t0 := Tryz.underlying0
  a0 := Tryz.isAgg0
  z0 := Tryz.sizeOf0
  v0 := Tryz.zeroValue0
  t3 := Tryz.underlying3
  a3 := Tryz.isAgg3
  z3 := Tryz.sizeOf3
  v3 := Tryz.zeroValue3
  t4 := Tryz.underlying4
  a4 := Tryz.isAgg4
  z4 := Tryz.sizeOf4
  v4 := Tryz.zeroValue4
  t22 := Tryz.underlying22
  a22 := Tryz.isAgg22
  z22 := Tryz.sizeOf22
  v22 := Tryz.zeroValue22
  t25 := Tryz.underlying131
  a25 := Tryz.isAgg131
  z25 := Tryz.sizeOf131
  v25 := Tryz.zeroValue131 }
end Go.Proofs
namespace Go.Proofs.YtabfapijgfjflaaGreat
open Go.RowKit
instance:Inhabited Sy:=⟨⟨ByteArray.empty,0,0,false⟩⟩
theorem acy(a b:ByteArray):(a.toList==b.toList)=decide (a=b):=by
 rw[ByteArray.toList_eq,ByteArray.toList_eq];obtain⟨⟨x⟩⟩:=a;obtain⟨⟨y⟩⟩:=b;by_cases h:x=y
 ·subst h;simp
 ·simp[h]
theorem asS(a b:ByteArray):a.toList=b.toList↔a=b:=by
 have:=acy a b;constructor
 ·intro h;rw[h] at this;simpa using this.symm
 ·rintro rfl;rfl
theorem aoI(name:ByteArray)(B:Nat)(w:World)(hB:B<w.heap.size)(hcell:w.cell? ⟨B,0,none⟩=some (.string name)):
 PredBelow Tryz.prog 174 #[.pointer (some ⟨B,0,none⟩)] (fun x:Sy=> .agg x.cells.toArray) (fun x=>decide (x.name=name)) w:=fun W x hb=>by
 have hc:W.cell? ⟨B,0,none⟩=some (.string name):=(hb.cell (p:=⟨B,0,none⟩) hB).trans hcell;have hBW:B<W.heap.size:=aF hB hb.size;have hne:B≠W.heap.size:=by omega
 show Calls Tryz.prog 174 #[sy x,.pointer (some ⟨B,0,none⟩)] W _;have HB:=ae hb;clear hb;go_enter Tryz.func174,Tryz.ntmps174;go_wp2
 all_goals (go_ret;refine⟨?_,HB.out.alloc HB.out.size _⟩;first|simp[acy]|simp_all)
theorem ahs(w:World):
 PredBelow Tryz.prog 89 #[] (fun x:Sy=> .agg x.cells.toArray) acT w:=fun W x hb=>by
 show Calls Tryz.prog 89 #[sy x] W _;have HB:=ae hb;clear hb;have hbad:acT x=(decide (x.name.size<1)||decide (64<x.name.size)||decide (x.ar<0)||decide (8<x.ar)||decide (x.wt<1)||decide (1000<x.wt)):=rfl;rw[hbad];clear hbad;by_cases q1:x.name.size<1
 ·go_enter Tryz.func89,Tryz.ntmps89;go_wp2
  all_goals (go_ret;refine⟨?_,HB.out.alloc HB.out.size _⟩;first|simp[q1]|simp_all)
 by_cases q2:64<x.name.size
 ·go_enter Tryz.func89,Tryz.ntmps89;go_wp2
  all_goals (go_ret;refine⟨?_,HB.out.alloc HB.out.size _⟩;first|simp[q1,q2]|simp_all)
 by_cases q3:x.ar<0
 ·go_enter Tryz.func89,Tryz.ntmps89;go_wp2
  all_goals (go_ret;refine⟨?_,HB.out.alloc HB.out.size _⟩;first|simp[q1,q2,q3]|simp_all)
 by_cases q4:8<x.ar
 ·go_enter Tryz.func89,Tryz.ntmps89;go_wp2
  all_goals (go_ret;refine⟨?_,HB.out.alloc HB.out.size _⟩;first|simp[q1,q2,q3,q4]|simp_all)
 by_cases q5:x.wt<1
 ·go_enter Tryz.func89,Tryz.ntmps89;go_wp2
  all_goals (go_ret;refine⟨?_,HB.out.alloc HB.out.size _⟩;first|simp[q1,q2,q3,q4,q5]|simp_all)
 by_cases q6:1000<x.wt
 ·go_enter Tryz.func89,Tryz.ntmps89;go_wp2
  all_goals (go_ret;refine⟨?_,HB.out.alloc HB.out.size _⟩;first|simp[q1,q2,q3,q4,q5,q6]|simp_all)
 ·go_enter Tryz.func89,Tryz.ntmps89;go_wp2
  all_goals (go_ret;refine⟨?_,HB.out.alloc HB.out.size _⟩;simp[show ¬((x.name.size:Int)<1) from by omega,show ¬(64<(x.name.size:Int)) from by omega,show ¬(x.ar<0) from by omega,show ¬(8<x.ar) from by omega,show ¬(x.wt<1) from by omega,show ¬(1000<x.wt) from by omega,q1,q2,q3,q4,q5,q6])
theorem als(p:Sy->Bool)(f:Nat)(lb:Array Value)(eg:∀args w,(callFunc f args).run Tryz.prog w= .ok (.enter f args) w)(g:Sg)(aM:Nat)(a:Option Addr)(c:Nat)(w:World)(hn:aM<=w.heap.size)(hG:aaX aM w g a c)
 (hp:PredBelow Tryz.prog f lb (fun x:Sy=> .agg x.cells.toArray) p w) (hg:0<g.length):
 Calls Tryz.prog 134 #[.slice a g.length c,.func (.func f) #[] lb] w fun e w'=>e= .returned (.int .i64 (Lib.idxBy (fun _ y=>p y) g default))/\Below w.heap.size w w':=by
 obtain⟨h1,h2,h3⟩:=hG
 rcases h3 with rfl|⟨b,o,rfl,hb,hr⟩
 ·simp at hg
 ·have h:=AnyQ.slices_IndexFunc Tryz.idxSym 4 Tryz.isAgg80 Tryz.sizeOf80 Sy.cells (fun _=>rfl) p f lb eg b o g.length c g w hp (af _) (by unfold maxLen at h2;omega) (by omega)
   (fun j hj i v hv=>by
    have hx:=hr j g[j] (ai hj);rw[getElem!_pos g j hj] at hv;generalize g[j]=x at hx hv;obtain⟨_,q0,q1,q2,q3⟩:=hx
    match i,hv with
    |0,hv=>simp[Sy.cells] at hv;rw[←hv];exact q0
    |1,hv=>simp[Sy.cells] at hv;rw[←hv];exact q1
    |2,hv=>simp[Sy.cells] at hv;rw[←hv];exact q2
    |3,hv=>simp[Sy.cells] at hv;rw[←hv];exact q3
    |i+4,hv=>simp[Sy.cells] at hv)
  rw[List.take_length] at h;exact h
theorem af6(g:Sg)(aM:Nat)(a:Option Addr)(c:Nat)(w:World)(hn:aM<=w.heap.size)(hG:aaX aM w g a c)(hg:0<g.length):
 Calls Tryz.prog 88 #[.slice a g.length c,.func (.func 89) #[] #[]] w fun e w'=>e= .returned (.bool (g.any acT))/\Below w.heap.size w w':=by
 obtain⟨h1,h2,h3⟩:=hG
 rcases h3 with rfl|⟨b,o,rfl,hb,hr⟩
 ·simp at hg
 ·have h:=AnyQ.slices_ContainsFunc Tryz.conSym 4 Tryz.isAgg80 Tryz.sizeOf80 Sy.cells (fun _=>rfl) acT 89 #[] (enters_of Tryz.func89 (by kernel_rfl) rfl) b o g.length c g w (ahs w) (af _) (by unfold maxLen at h2;omega) (by omega)
   (fun j hj i v hv=>by
    have hx:=hr j g[j] (ai hj);rw[getElem!_pos g j hj] at hv;generalize g[j]=x at hx hv;obtain⟨_,q0,q1,q2,q3⟩:=hx
    match i,hv with
    |0,hv=>simp[Sy.cells] at hv;rw[←hv];exact q0
    |1,hv=>simp[Sy.cells] at hv;rw[←hv];exact q1
    |2,hv=>simp[Sy.cells] at hv;rw[←hv];exact q2
    |3,hv=>simp[Sy.cells] at hv;rw[←hv];exact q3
    |i+4,hv=>simp[Sy.cells] at hv)
  rw[List.take_length] at h;exact h
theorem ari(name:ByteArray)(g:Sg):Lib.idxBy (fun _ (y:Sy)=>decide (y.name=name)) g default=match adi name g with
 |some i=>(i:Int)
 |none=> -1:=by
 cases h:adi name g with
 |none=>
  have h1:=aeQ h
  have:=Lib.idxBy_miss (fun _ (y:Sy)=>decide (y.name=name)) g g.length default (fun j hj=>by
   rw[getElem!_pos g j hj];simpa using h1 g[j] (List.getElem_mem hj))
  rw[List.take_length] at this;exact this
 |some i=>
  obtain⟨x,h1,h2,h3⟩:=adm h;obtain⟨hi,e⟩:=ah.1 h1
  have:=Lib.idxBy_hit (fun _ (y:Sy)=>decide (y.name=name)) g g.length i default hi (af _) (by rw[getElem!_pos g i hi,e];simpa using h2) (fun j hj=>by
   have hjl:j<g.length:=by omega
   rw[getElem!_pos g j hjl];simpa using h3 j g[j] hj (ai hjl))
  rw[List.take_length] at this;exact this
def arj(name:ByteArray)(g:Sg):Value:=match adi name g with
 |some i=> .tuple #[.int .i64 (i:Int),.bool true]
 |none=> .tuple #[.int .i64 0,.bool false]
theorem ark(name:ByteArray)(g:Sg)(hg:0<g.length)(aM:Nat)(a:Option Addr)(c:Nat)(w:World)(hn:aM<=w.heap.size)(hG:aaX aM w g a c):
 Calls Tryz.prog 135 #[.slice a g.length c,.string name] w fun e w'=>e= .returned (arj name g)/\Below w.heap.size w w':=by
 have hlc:g.length<=c/\c<=maxLen:=⟨hG.1,hG.2.1⟩;unfold maxLen at hlc;obtain⟨hl1,hl2⟩:=hlc;have eg:∀args w,(callFunc 174 args).run Tryz.prog w= .ok (.enter 174 args) w:=enters_of Tryz.func174 (by kernel_rfl) rfl
 have CI:=ae (als (fun y=>decide (y.name=name)) 174 #[.pointer (some ⟨w.heap.size,0,none⟩)] eg g aM a c (w.alloc (.cells #[.string name] 9)) (by simp;omega)
  (hG.below ((ag _ _).alloc hn _)) (aoI name w.heap.size _ (by simp) (by simp)) hg)
 have HI:=ae (ari name g)
 have HG:=ae (show ∀i,adi name g=some i->i<g.length from fun i hi=>by
  obtain⟨x,h1,_⟩:=adm hi;exact(ah.1 h1).1)
 clear hG eg;unfold arj;generalize Lib.idxBy (fun _ (y:Sy)=>decide (y.name=name)) g default=r at*;cases hx:adi name g with
 |none=>
  have hr:r= -1:=by have:=HI.out;rw[hx] at this;exact this
  subst hr;clear hx;go_enter Tryz.func135,Tryz.ntmps135
  go_wp2_with fail
  refine CI.out.mono ?_;rintro e w2 ⟨rfl,hb2⟩;have HB2:=ae (((ag _ w).alloc (af _) _).trans (hb2.mono (by simp)));clear hb2;go_wp2;refine bodyPost_ret (v:= .tuple #[.int .i64 0,.bool false]) (by simp[results,Tryz.results135,go_sem]<;>decide) rfl ?_;exact⟨rfl,HB2.out⟩
 |some i=>
  have hr:r=(i:Int):=by have:=HI.out;rw[hx] at this;exact this
  have hil:=HG.out i hx;subst hr;clear hx;go_enter Tryz.func135,Tryz.ntmps135
  go_wp2_with fail
  refine CI.out.mono ?_;rintro e w2 ⟨rfl,hb2⟩;have HB2:=ae (((ag _ w).alloc (af _) _).trans (hb2.mono (by simp)));clear hb2;go_wp2;refine bodyPost_ret (v:= .tuple #[.int .i64 (i:Int),.bool true]) (by simp[results,Tryz.results135,go_sem]) rfl ?_;exact⟨rfl,HB2.out⟩
def axh(g:Sg)(w:World)(i:Value)(wr:World):Prop:=∃k:Nat,k<=g.length/\i= .int .i64 k/\(∀j x,j<k->g[j]? =some x->adi x.name g=some j)/\Below w.heap.size w wr
theorem aiR(g:Sg)(hg:0<g.length)(aM:Nat)(a:Option Addr)(c:Nat)(w:World)(hn:aM<=w.heap.size)(hG:aaX aM w g a c):
 Calls Tryz.prog 90 #[.slice a g.length c] w fun e w'=>e= .returned (.bool (ahq g))/\Below w.heap.size w w':=by
 have hlc:g.length<=c/\c<=maxLen:=⟨hG.1,hG.2.1⟩;unfold maxLen at hlc;obtain⟨hl1,hl2⟩:=hlc;have HS:=ae hG;clear hG;go_enter Tryz.func90,Tryz.ntmps90;go_wp2
 go_loopw [9] (fun i wr=>axh g w i wr) (fun i _=>g.length-(intOf i).toNat)
 case atStart=>exact⟨0,Nat.zero_le _,rfl,fun j x hj=>by omega,ag _ _⟩
 case round=>
  obtain⟨k,hk,rfl,hbd,hB⟩:=hrel;have HBD:=ae hbd;have HB:=ae hB;have hbz:=hB.size;clear hbd hB;by_cases hlt:k<g.length
  ·obtain⟨b,o,x,rfl,hbn,hs,hxw,hc0,hc1,hc2,hc3⟩:=(HS.out.below (HB.out.mono hn)).elem (i:=k) hlt;have hk0:(0:Int)<=(k:Int):=aw _;have hk1:(k:Int)<(g.length:Int):=by omega
   have hbw:b<wr.heap.size:=by omega
   have HXK:=ae hs;have CF:=ae (fun(W:World) (hW:Below w.heap.size w W)=>ark x.name g hg aM (some ⟨b,o,none⟩) c W (aE hn hW.size) (HS.out.below (hW.mono hn)));clear hs hxw;cases hx:adi x.name g with
   |none=>
    have:=aeQ hx x (ak HXK.out);exact absurd rfl this
   |some i=>
   have HX:=ae hx;have hil:i<g.length:=by obtain⟨y,h1,_⟩:=adm hx;exact(ah.1 h1).1
   have hfv:arj x.name g= .tuple #[.int .i64 (i:Int),.bool true]:=by unfold arj;rw[hx]
   rw[hfv] at CF;clear hfv hx
   go_wp2_with fail
   refine(CF.out _ (by first|exact HB.out.alloc HB.out.size _|exact(HB.out.alloc HB.out.size _).alloc (by simp;omega) _)).mono ?_;rintro e w2 ⟨rfl,hb2⟩;have HB2:=ae ((HB.out.alloc HB.out.size _).trans (hb2.mono (by simp;omega)));clear hb2;by_cases hik:i=k
   ·subst hik;go_wp2
    go_roundw
    case rel=>
     refine⟨i+1,by omega,by go_num,fun j y hj hy=> ?_,HB2.out⟩;by_cases e:j=i
     ·subst e;rw[HXK.out] at hy;obtain rfl:=Option.some.inj hy;exact HX.out
     ·exact HBD.out j y (by omega) hy
    case measure=>simp[intOf];omega
   ·have hik':¬((i:Int)=(k:Int)):=by omega
    have HD:=ae (show ahq g=false from by
     have h1:¬(∀j,j<g.length->∀y,g[j]? =some y->adi y.name g=some j):=fun h=>by
      have:=h k hlt x HXK.out;rw[HX.out] at this;exact hik (Option.some.inj this)
     cases hd:ahq g with
     |false=>rfl
     |true=>
      exfalso;apply h1;intro j hj y hy;have:=List.all_eq_true.1 hd j (List.mem_range.2 hj);simpa[hy] using this)
    go_wp2;go_ret;exact⟨by rw[HD.out];rfl,HB2.out⟩
  ·obtain rfl:k=g.length:=by omega
   have HD:=ae (show ahq g=true from List.all_eq_true.2 fun j hj=>by
    have hj:=List.mem_range.1 hj;have:=HBD.out j g[j] hj (ai hj);simp[ai hj,this])
   go_wp2;go_ret;exact⟨by rw[HD.out];rfl,HB.out⟩
theorem aoJ(x y:Sy)(w:World):Sem.run Tryz.prog (binOp .neq 80 (sy x) (sy y)) w= .ok (.bool (decide (x≠y))) w:=by
 have hS:Tryz.prog.underlying 80=some (.struct (Tryz.prog.fieldsOf 80)):=by kernel_rfl
 have hp:Tryz.prog.stoodInHeld 80=false:=by kernel_rfl
 have a1:=Tryz.isAgg9;have z1:=Tryz.sizeOf9;have u1:=Tryz.underlying9;have a3:=Tryz.isAgg3;have z3:=Tryz.sizeOf3;have u3:=Tryz.underlying3;have a4:=Tryz.isAgg4;have z4:=Tryz.sizeOf4;have u4:=Tryz.underlying4;rw[run_neq_struct,show(10000:Nat)=9999+1 from rfl,run_equalIn_agg w 9999 80 _ _ hS hp];simp only[Program.fieldsOf,Tryz.underlying80];go_simp;obtain⟨n1,a1,t1,r1⟩:=x;obtain⟨n2,a2,t2,r2⟩:=y;simp only[asS,Sy.mk.injEq];by_cases h1:n1=n2<;>by_cases h2:a1=a2<;>by_cases h3:t1=t2<;>by_cases h4:r1=r2<;>simp[h1,h2,h3,h4]
theorem af7(g:Sg)(aM:Nat)(a:Option Addr)(c:Nat)(w:World)(hn:aM<=w.heap.size)(hG:aaX aM w g a c):
 Calls Tryz.prog 49 #[.slice a g.length c] w fun e w'=>e= .returned (.int .i64 (ahr g))/\Below w.heap.size w w':=by
 have hlc:g.length<=c/\c<=maxLen:=⟨hG.1,hG.2.1⟩;unfold maxLen at hlc;obtain⟨hl1,hl2⟩:=hlc;have HG:=ae hG;clear hG;by_cases q1:g.length<1
 ·have HE:=ae (show ahr g=1 from by unfold ahr aan;simp[show ¬1<=g.length from by omega]);go_enter Tryz.func49,Tryz.ntmps49;go_wp2;go_ret;exact⟨by rw[HE.out];rfl,ag _ _⟩
 by_cases q2:256<g.length
 ·have HE:=ae (show ahr g=1 from by unfold ahr aan;simp[show ¬g.length<=256 from by omega]);go_enter Tryz.func49,Tryz.ntmps49;go_wp2;go_ret;exact⟨by rw[HE.out];rfl,ag _ _⟩
 obtain⟨b,o,x,rfl,hbn,hs,hxw,hc0,hc1,hc2,hc3⟩:=HG.out.elem (i:=0) (by omega);simp only[Nat.zero_mul,Nat.add_zero] at hc0 hc1 hc2 hc3;have hgd:=fun(op:BinOp) (p q:Operand) (u v:Array Value) (W:World)=>run_eqGuard_agg (P:=Tryz.prog) W op 80 p q u v (by kernel_rfl);have h0:(decide (g[0]? =some sy0))=decide (x=sy0):=by rw[hs];simp
 have HS:=ae h0;clear h0 hs;by_cases q3:x=sy0
 ·have q3x:=q3;have hneq:∀W,Sem.run Tryz.prog (binOp .neq 80 (.agg #[.string x.name,.int .i64 x.ar,.int .i64 x.wt,.bool x.tr]) (.agg #[.string ⟨#[36,116,114,117,101]⟩,.int .i64 0,.int .i64 1,.bool true])) W= .ok (.bool false) W:=fun W=>(aoJ x sy0 W).trans (by simp[q3]);have H3:=ae (show decide (g[0]? =some sy0)=true from by rw[HS.out,q3];simp);have CB:=ae (af6 g aM (some ⟨b,o,none⟩) c w hn HG.out (by omega));have CD:=ae (fun(W:World) (hW:Below w.heap.size w W)=>aiR g (by omega) aM (some ⟨b,o,none⟩) c W (aE hn hW.size) (HG.out.below (hW.mono hn)));clear q3 q3x;go_enter Tryz.func49,Tryz.ntmps49
  go_wp2_with fail
  refine CB.out.mono ?_;rintro e w2 ⟨rfl,hb2⟩;have HB2:=ae hb2;clear hb2;cases hA:g.any acT with
  |true=>
   have HE:=ae (show ahr g=1 from by unfold ahr aan;rw[hA];simp);clear hA;go_wp2;go_ret;exact⟨by rw[HE.out];rfl,HB2.out⟩
  |false=>
   have HA:=ae hA;clear hA
   go_wp2_with fail
   refine(CD.out _ HB2.out).mono ?_;rintro e w3 ⟨rfl,hb3⟩;have HB3:=ae (HB2.out.trans (hb3.mono HB2.out.size));clear hb3;cases hD:ahq g with
   |true=>
    have HE:=ae (show ahr g=0 from by unfold ahr aan;rw[H3.out,HA.out,hD];simp;omega);clear hD;go_wp2;go_ret;exact⟨by rw[HE.out];rfl,HB3.out⟩
   |false=>
    have HE:=ae (show ahr g=1 from by unfold ahr aan;rw[hD];simp);clear hD;go_wp2;go_ret;exact⟨by rw[HE.out];rfl,HB3.out⟩
 ·have q3x:=q3;have hneq:∀W,Sem.run Tryz.prog (binOp .neq 80 (.agg #[.string x.name,.int .i64 x.ar,.int .i64 x.wt,.bool x.tr]) (.agg #[.string ⟨#[36,116,114,117,101]⟩,.int .i64 0,.int .i64 1,.bool true])) W= .ok (.bool true) W:=fun W=>(aoJ x sy0 W).trans (by simp[q3]);have HE:=ae (show ahr g=1 from by unfold ahr aan;rw[HS.out];simp[q3]);clear q3 q3x;go_enter Tryz.func49,Tryz.ntmps49;go_wp2;go_ret;exact⟨by rw[HE.out];rfl,ag _ _⟩
theorem T.depth_eq(t:T):t.depth=1+T.depths t.args:=by cases t;simp[T.depth,T.args];omega
theorem T.depths_append(a b:List T):T.depths (a++b)=max (T.depths a) (T.depths b):=by
 induction a with
 |nil=>simp[T.depths]
 |cons t ts ih=>simp only[List.cons_append,T.depths,ih];omega
theorem T.depths_take{ts:List T}{i:Nat}{t:T}(h:ts[i]? =some t):T.depths (ts.take (i+1))=max (T.depths (ts.take i)) t.depth:=by
 obtain⟨hi,e⟩:=ah.1 h;rw[aI hi,T.depths_append,e];simp[T.depths]
mutual
theorem T.depth_le_size:(t:T)->t.depth<=t.size
 | .node h ts=>by simp only[T.depth,T.size];have:=T.depths_le_sizes ts;omega
theorem T.depths_le_sizes:(ts:List T)->T.depths ts<=T.sizes ts
 |[]=>by simp[T.depths,T.sizes]
 |t::ts=>by simp only[T.depths,T.sizes];have:=T.depth_le_size t;have:=T.depths_le_sizes ts;omega
end
theorem af8(t:T):bad (T.subs 1 t)=(!okB t.head t.args.length||bad (T.subss 2 t.args)):=by rw[T.subs_eq];rfl
mutual
theorem acz(l l':Nat):(t:T)->bad (T.subs l t)=bad (T.subs l' t)
 | .node h ts=>by
   have:=ahJ (l+1) (l'+1) ts;simp only[bad,T.subs,List.any_cons] at this ⊢;rw[this]
theorem ahJ(l l':Nat):(ts:List T)->bad (T.subss l ts)=bad (T.subss l' ts)
 |[]=>rfl
 |t::ts=>by
  have h1:=acz l l' t;have h2:=ahJ l l' ts;simp only[bad,T.subss,List.any_append] at h1 h2 ⊢;rw[h1,h2]
end
theorem aj2{ts:List T}{i:Nat}{t:T}(h:ts[i]? =some t):bad (T.subss 2 (ts.take (i+1)))=(bad (T.subss 2 (ts.take i))||bad (T.subs 1 t)):=by
 obtain⟨hi,e⟩:=ah.1 h
 have happ:∀(a b:List T),bad (T.subss 2 (a++b))=(bad (T.subss 2 a)||bad (T.subss 2 b)):=by
  intro a b
  induction a with
  |nil=>simp[T.subss,bad]
  |cons t ts ih=>simp only[List.cons_append,T.subss,bad,List.any_append] at ih ⊢;rw[ih,Bool.or_assoc]
 rw[aI hi,happ,e]
 congr 1
 rw[acz 1 2 t];simp[T.subss]
theorem amu{ts:List T}{i:Nat}{t:T}(h:ts[i]? =some t)(hb:bad (T.subs 1 t)=true):bad (T.subss 2 ts)=true:=by
 have h1:=aj2 h;rw[hb,Bool.or_true] at h1
 have happ:∀(a b:List T),bad (T.subss 2 a)=true->bad (T.subss 2 (a++b))=true:=by
  intro a b
  induction a with
  |nil=>simp[T.subss,bad]
  |cons t ts ih=>
   simp only[List.cons_append,T.subss,bad,List.any_append,Bool.or_eq_true] at ih ⊢;rintro(h|h)
   ·exact .inl h
   ·exact .inr (ih h)
 have:=happ _ (ts.drop (i+1)) h1;rwa[List.take_append_drop] at this
theorem aaA{t s:T}{k:Nat}(h:bad (T.subs 1 t)=false)(hs:t.args[k]? =some s):bad (T.subs 1 s)=false:=by
 rw[af8,Bool.or_eq_false_iff] at h;cases hb:bad (T.subs 1 s)
 ·rfl
 ·have:=amu hs hb;rw[h.2] at this;cases this
theorem aaI{t:T}(h:bad (T.subs 1 t)=false):okB t.head t.args.length=true:=by
 rw[af8,Bool.or_eq_false_iff] at h;simpa using h.1
theorem acV{t:T}(h:bad (T.subs 1 t)=false)(hn:t.head<0):t.args=[]:=by
 have:=aaI h;simp[okB,hn] at this;exact this.1
theorem aam{t:T}(h:t.check=0):t.size<=400/\t.depth<=40/\bad (T.subs 1 t)=false:=by
 unfold T.check at h;by_cases q1:400<t.size
 ·rw[if_pos q1] at h;cases h
 ·rw[if_neg q1] at h;by_cases q2:40<t.depth
  ·rw[if_pos q2] at h;cases h
  ·rw[if_neg q2] at h;cases hb:bad (T.subs 1 t)
   ·exact⟨by omega,by omega,rfl⟩
   ·rw[hb] at h;cases h
theorem acW(W:World)(n:Nat):Below W.heap.size W (W.drewN n):=⟨rfl,rfl,rfl,af _,fun _ _=>rfl⟩
def avc(f:Nat)(lb:Array Value)(p:T->Bool)(ts:List T)(aM:Nat)(w:World):Prop:=
 ∀(W:World) (t:T) (a:Option Addr) (c:Nat),t∈ts->Below w.heap.size w W->(Lit.int .i64 t.head).wf=true->aab aM W t.args a c->
  Calls Tryz.prog f (#[tm t.head a t.args.length c]++lb) W fun e w'=>e= .returned (.bool (p t))/\Below W.heap.size W w'
def axi(p:T->Bool)(ts:List T)(w:World)(i:Value)(wr:World):Prop:=∃k:Nat,k<=ts.length/\i= .int .i64 k/\ts.any p=(ts.drop k).any p/\Below w.heap.size w wr
theorem anA(p:T->Bool)(f:Nat)(lb:Array Value)(eg:∀args w,(callFunc f args).run Tryz.prog w= .ok (.enter f args) w)(ts:List T)(aM:Nat)(a:Option Addr)(c:Nat)(w:World)(hn:aM<=w.heap.size)(hA:aab aM w ts a c)
 (hp:avc f lb p ts aM w):
 Calls Tryz.prog 131 #[.slice a ts.length c,.func (.func f) #[] lb] w fun e w'=>∃j:Int,e= .returned (.int .i64 j)/\decide (0<=j)=ts.any p/\Below w.heap.size w w':=by
 have hlc:ts.length<=c/\c<=maxLen:=⟨hA.1,hA.2.1⟩;unfold maxLen at hlc;obtain⟨hl1,hl2⟩:=hlc;have HA:=ae hA;have HP:=ae hp;clear hA hp;go_enter Tryz.func131,Tryz.ntmps131;go_wp2
 go_loopw [8] (fun i wr=>axi p ts w i wr) (fun i _=>ts.length-(intOf i).toNat)
 case atStart=>exact⟨0,Nat.zero_le _,rfl,by simp,ag _ _⟩
 case round=>
  obtain⟨k,hk,rfl,hbd,hB⟩:=hrel;have HBD:=ae hbd;have HB:=ae hB;have hbz:=hB.size;clear hbd hB;by_cases hlt:k<ts.length
  ·obtain⟨b,o,s,a',c',rfl,hbn,hs,hswf,hc1,hc2,hA'⟩:=(HA.out.below (HB.out.mono hn)).elem (i:=k) hlt;have hk0:(0:Int)<=(k:Int):=aw _;have hk1:(k:Int)<(ts.length:Int):=by omega
   have hbw:b<wr.heap.size:=by omega
   have hcall:=HP.out wr s a' c' (ak hs) HB.out hswf hA'
   have hst:(ts.drop k).any p=(p s||(ts.drop (k+1)).any p):=by
    obtain⟨hkl,hke⟩:=ah.1 hs;rw[aD hkl,hke];rfl
   have HSTEP:=ae hst;clear hs hswf hA' hst;cases hd:p s with
   |false=>
    rw[hd] at hcall;have H0:=ae (show(ts.drop k).any p=(ts.drop (k+1)).any p from by rw[HSTEP.out,hd];rfl);clear hd
    go_wp2_with (go_at_fn f;refine hcall.mono ?_;rintro e w2 ⟨rfl,hb2⟩)
    have HB2:=ae (HB.out.trans (hb2.mono hbz));clear hb2
    go_roundw
    case rel=>exact⟨k+1,by omega,by go_num,HBD.out.trans H0.out,HB2.out⟩
    case measure=>simp[intOf];omega
   |true=>
    rw[hd] at hcall;have H0:=ae (show ts.any p=true from by rw[HBD.out,HSTEP.out,hd];rfl);clear hd
    go_wp2_with (go_at_fn f;refine hcall.mono ?_;rintro e w2 ⟨rfl,hb2⟩)
    have HB2:=ae (HB.out.trans (hb2.mono hbz));clear hb2;go_ret;exact⟨(k:Int),rfl,by rw[H0.out];simp,HB2.out⟩
  ·obtain rfl:k=ts.length:=by omega
   have H0:=ae (show ts.any p=false from by rw[HBD.out,List.drop_of_length_le (af _)];rfl);go_wp2;go_ret;exact⟨-1,rfl,by rw[H0.out];rfl,HB.out⟩
theorem ab7(p:T->Bool)(f:Nat)(lb:Array Value)(eg:∀args w,(callFunc f args).run Tryz.prog w= .ok (.enter f args) w)(ts:List T)(aM:Nat)(a:Option Addr)(c:Nat)(w:World)(hn:aM<=w.heap.size)(hA:aab aM w ts a c)
 (hp:avc f lb p ts aM w):
 Calls Tryz.prog 83 #[.slice a ts.length c,.func (.func f) #[] lb] w fun e w'=>e= .returned (.bool (ts.any p))/\Below w.heap.size w w':=by
 have CI:=ae (anA p f lb eg ts aM a c w hn hA hp);clear hA hp eg;go_enter Tryz.func83,Tryz.ntmps83
 go_wp2_with fail
 refine CI.out.mono ?_;rintro e w2 ⟨j,rfl,hj,hb⟩;have HJ:=ae hj;have HB:=ae hb;clear hj hb;go_wp2;go_ret;exact⟨by rw[←HJ.out];rfl,HB.out⟩
theorem aoK(g:Sg)(ga:Option Addr)(gc:Nat)(t:T)(a:Option Addr)(c:Nat)(B:Nat)(W:World)(hB:B<W.heap.size)(hcell:W.cell? ⟨B,0,none⟩=some (.slice ga g.length gc))
 (hF:∀X,Below W.heap.size W X->Calls Tryz.prog 175 #[.slice ga g.length gc,tm t.head a t.args.length c] X fun e w'=>e= .returned (.bool (aaL g t))/\Below X.heap.size X w'):
 Calls Tryz.prog 208 #[tm t.head a t.args.length c,.pointer (some ⟨B,0,none⟩)] W fun e w'=>e= .returned (.bool (!aaL g t))/\Below W.heap.size W w':=by
 have HF:=ae hF;clear hF;have hne:B≠W.heap.size:=by omega
 go_enter Tryz.func208,Tryz.ntmps208
 go_wp2_with fail
 refine(HF.out _ ((ag _ _).alloc (af _) _)).mono ?_;rintro e w2 ⟨rfl,hb2⟩;have HB2:=ae (((ag _ W).alloc (af _) _).trans (hb2.mono (by simp)));clear hb2;go_wp2;go_ret;exact⟨rfl,HB2.out⟩
theorem arl(g:Sg):∀(N:Nat) (t:T),t.size<=N->∀(aM:Nat) (ga:Option Addr) (gc:Nat) (a:Option Addr) (c:Nat) (w:World),aM<=w.heap.size->aaX aM w g ga gc->(Lit.int .i64 t.head).wf=true->aab aM w t.args a c->
 Calls Tryz.prog 175 #[.slice ga g.length gc,tm t.head a t.args.length c] w fun e w'=>e= .returned (.bool (aaL g t))/\Below w.heap.size w w':=by
 intro N
 induction N with
 |zero=>intro t ht;have:=T.size_pos t;omega
 |succ N ih=>
  intro t ht aM ga gc a c w hn hG hwf hA;have IH:=ae ih;clear ih;have HE:=ae (aa4 g t);have hlc:t.args.length<=c/\c<=maxLen:=⟨hA.1,hA.2.1⟩;have hlg:g.length<=gc/\gc<=maxLen:=⟨hG.1,hG.2.1⟩;unfold maxLen at hlc hlg;obtain⟨hl1,hl2⟩:=hlc;obtain⟨hl3,hl4⟩:=hlg;have HA:=ae hA;have HG:=ae hG
  have HS:=ae (show ∀s∈t.args,s.size<=N from fun s hs=>by
   obtain⟨i,hi⟩:=au hs;have h1:=T.size_lt_of_mem hi;have h2:=T.size_eq t;omega)
  clear hA hG;have HF:=ae (show Below w.heap.size w ((w.alloc (.cells #[.slice ga g.length gc] 22)).alloc (aaa t.head a t.args.length c)) from((ag _ w).alloc (af _) _).alloc (by simp) _);by_cases q1:t.head<0
  ·have hd:=ae (show aaL g t=true from by rw[HE.out];simp[q1]);go_enter Tryz.func175,Tryz.ntmps175;go_wp2;go_ret;exact⟨by rw[hd.out];rfl,HF.out⟩
  by_cases q2:t.head<(g.length:Int)
  ·obtain⟨b,o,x,rfl,hbn,hs,hxw,hc0,hc1,hc2,hc3⟩:=HG.out.elem (i:=t.head.toNat) (by omega);have hk0:(0:Int)<=t.head:=by omega
   have HAR:=ae (show acU g t.head t.args.length=decide ((t.args.length:Int)=x.ar) from by unfold acU;rw[hs];simp;omega);have hbw:b<w.heap.size:=by omega
   obtain⟨W1,hW1⟩:∃W1,(w.alloc (.cells #[.slice (some ⟨b,o,none⟩) g.length gc] 22)).alloc (aaa t.head a t.args.length c)=W1:=⟨_,rfl⟩;have hF1:Below w.heap.size w W1:=by rw[←hW1];exact HF.out
   have HF1:=ae hF1;have hs1:W1.heap.size=w.heap.size+1+1:=by rw[←hW1];simp
   have hg0:W1.cell? ⟨w.heap.size,0,none⟩=some (.slice (some ⟨b,o,none⟩) g.length gc):=by rw[←hW1];simp[go_sem]
   have ht0:W1.cell? ⟨w.heap.size+1,0,none⟩=some (.int .i64 t.head):=by rw[←hW1];simp[go_sem]
   have ht1:W1.cell? ⟨w.heap.size+1,1,none⟩=some (.slice a t.args.length c):=by rw[←hW1];simp[go_sem]
   have hx1:W1.cell? ⟨b,o+t.head.toNat*4+1,none⟩=some (.int .i64 x.ar):=(hF1.cell (p:=⟨b,_,none⟩) hbw).trans hc1;have HS1:=ae hs1;by_cases q3:(t.args.length:Int)=x.ar
   ·have hd:=ae (show aaL g t= !(t.args.any fun s=> !aaL g s) from by
     rw[HE.out,HAR.out,abV];simp[q1,q3,List.any_eq_not_all_not])
    have CT:=ae (fun(n:Nat)=>ab7 (fun s=> !aaL g s) 208 #[.pointer (some ⟨w.heap.size,0,none⟩)] (enters_of Tryz.func208 (by kernel_rfl) rfl) t.args aM a c
     (W1.drewN n) (show aM<=W1.heap.size from by omega) (HA.out.below ((HF1.out.trans ((acW _ _).mono HF1.out.size)).mono hn))
     (fun W s a' c' hs hW hwf' hA'=>by
      have hz1:=HS1.out;have hz2:W1.heap.size<=W.heap.size:=hW.size;have hW':Below W1.heap.size W1 W:=(acW _ _).trans hW
      exact aoK g _ gc s a' c' w.heap.size W (by omega) ((hW'.cell (p:=⟨w.heap.size,0,none⟩) (by show w.heap.size<W1.heap.size;omega)).trans hg0)
       (fun X hX=>IH.out s (HS.out s hs) aM _ gc a' c' X (by have:=hX.size;omega)
        (HG.out.below ((HF1.out.trans (hW'.mono HF1.out.size)).mono hn |>.trans (hX.mono (by omega)))) hwf' (hA'.below (hX.mono (by omega))))))
    clear hs hxw hs1 hF1;go_enter Tryz.func175,Tryz.ntmps175;go_wp2;clear hW1
    go_quiet (fail)
    go_wp2_with (first|(go_at_call 83;refine(CT.out _).mono ?_;rintro e w3 ⟨rfl,hb3⟩))
    have HB3:=ae ((HF1.out.trans ((acW _ _).mono HF1.out.size)).trans (hb3.mono HF1.out.size));clear hb3;go_ret;exact⟨by rw[hd.out];rfl,HB3.out⟩
   ·have hd:=ae (show aaL g t=false from by
     rw[HE.out,HAR.out];simp[q1,q3])
    have q4:((t.args.length:Int) != x.ar)=true:=by simpa using q3
    clear hs hxw hs1 hF1;go_enter Tryz.func175,Tryz.ntmps175;go_wp2;clear hW1
    go_quiet (fail)
    go_wp2;go_ret;exact⟨by rw[hd.out];rfl,HF1.out.trans ((acW _ _).mono HF1.out.size)⟩
  ·have hd:=ae (show aaL g t=false from by
    rw[HE.out];unfold acU
    rw[List.getElem?_eq_none (by omega)];simp[q1])
   obtain⟨W1,hW1⟩:∃W1,(w.alloc (.cells #[.slice ga g.length gc] 22)).alloc (aaa t.head a t.args.length c)=W1:=⟨_,rfl⟩;have HF1:=ae (show Below w.heap.size w W1 from by rw[←hW1];exact HF.out);have hg0:W1.cell? ⟨w.heap.size,0,none⟩=some (.slice ga g.length gc):=by rw[←hW1];simp[go_sem]
   have ht0:W1.cell? ⟨w.heap.size+1,0,none⟩=some (.int .i64 t.head):=by rw[←hW1];simp[go_sem]
   have ht1:W1.cell? ⟨w.heap.size+1,1,none⟩=some (.slice a t.args.length c):=by rw[←hW1];simp[go_sem]
   go_enter Tryz.func175,Tryz.ntmps175;go_wp2;clear hW1
   go_quiet (fail)
   go_wp2;go_ret;exact⟨by rw[hd.out];rfl,HF1.out.trans ((acW _ _).mono HF1.out.size)⟩
theorem aoL(g:Sg)(ga:Option Addr)(gc:Nat)(t:T)(a:Option Addr)(c:Nat)(B aM:Nat)(W:World)(hB:B<W.heap.size)(hn:aM<=W.heap.size)(hcell:W.cell? ⟨B,0,none⟩=some (.slice ga g.length gc))(hG:aaX aM W g ga gc)(hft:aaL g t=true)
 (hF:∀X,Below W.heap.size W X->Calls Tryz.prog 176 #[.slice ga g.length gc,.slice a t.args.length c] X fun e w'=>e= .returned (.bool (abu g t.args))/\Below X.heap.size X w'):
 Calls Tryz.prog 209 #[tm t.head a t.args.length c,.pointer (some ⟨B,0,none⟩)] W fun e w'=>e= .returned (.bool (adQ g t))/\Below W.heap.size W w':=by
 have HF:=ae hF;have HE:=ae (abc g t);have hlg:g.length<=gc/\gc<=maxLen:=⟨hG.1,hG.2.1⟩;unfold maxLen at hlg;obtain⟨hl3,hl4⟩:=hlg;have hne:B≠W.heap.size:=by omega
 by_cases q1:t.head<0
 ·have hd:=ae (show adQ g t=abu g t.args from by rw[HE.out];unfold aap;simp[show ¬0<=t.head from by omega]);clear hF hG hft;go_enter Tryz.func209,Tryz.ntmps209
  go_wp2_with fail
  refine(HF.out _ ((ag _ _).alloc (af _) _)).mono ?_;rintro e w2 ⟨rfl,hb2⟩;have HB2:=ae (((ag _ W).alloc (af _) _).trans (hb2.mono (by simp)));clear hb2;go_wp2;go_ret;exact⟨by rw[hd.out];first|rfl|simp,HB2.out⟩
 ·have hk:t.head.toNat<g.length:=by
   have:aaL g t=true:=hft;rw[aa4] at this;simp[q1,acU] at this;obtain⟨h1,_⟩:=this;split at h1
   ·rename_i x hx;exact(ah.1 hx).1
   ·simp at h1
  have hk2:t.head<(g.length:Int):=by omega
  have hk0:0<=t.head:=by omega
  obtain⟨b,o,x,rfl,hbn,hs,hxw,hc0,hc1,hc2,hc3⟩:=hG.elem (i:=t.head.toNat) hk;have hbw:b<W.heap.size:=by omega
  have hps:aap g t.head=x.tr:=by unfold aap;rw[hs];simp[hk0]
  clear hF hG hft hxw hs;cases htr:x.tr with
  |true=>
   have hd:=ae (show adQ g t=true from by rw[HE.out,hps,htr];rfl);rw[htr] at hc3;clear hps htr;go_enter Tryz.func209,Tryz.ntmps209;go_wp2;go_ret;exact⟨by rw[hd.out];rfl,((ag _ W).alloc (af _) _)⟩
  |false=>
   have hd:=ae (show adQ g t=abu g t.args from by rw[HE.out,hps,htr];rfl);rw[htr] at hc3;clear hps htr;go_enter Tryz.func209,Tryz.ntmps209
   go_wp2_with fail
   refine(HF.out _ ((ag _ _).alloc (af _) _)).mono ?_;rintro e w2 ⟨rfl,hb2⟩;have HB2:=ae (((ag _ W).alloc (af _) _).trans (hb2.mono (by simp)));clear hb2;go_wp2;go_ret;exact⟨by rw[hd.out];first|rfl|simp,HB2.out⟩
theorem aiS(g:Sg):∀(N:Nat) (ts:List T),T.sizes ts<=N->(∀t∈ts,aaL g t=true/\bad (T.subs 1 t)=false)->∀(aM:Nat) (ga:Option Addr) (gc:Nat) (a:Option Addr) (c:Nat) (w:World),aM<=w.heap.size->aaX aM w g ga gc->aab aM w ts a c->
 Calls Tryz.prog 176 #[.slice ga g.length gc,.slice a ts.length c] w fun e w'=>e= .returned (.bool (abu g ts))/\Below w.heap.size w w':=by
 intro N
 induction N with
 |zero=>
  intro ts ht hf aM ga gc a c w hn hG hA;have h0:ts=[]:=by cases ts with|nil=>rfl|cons t ts=>have:=T.size_pos t;simp[T.sizes] at ht;omega
  subst h0;have hlc:(([]:List T)).length<=c/\c<=maxLen:=⟨hA.1,hA.2.1⟩;have HA:=ae hA;have HF:=ae (show Below w.heap.size w (w.alloc (.cells #[.slice ga g.length gc] 22)) from(ag _ w).alloc (af _) _)
  have CT:=ae (ab7 (fun s=>adQ g s) 209 #[.pointer (some ⟨w.heap.size,0,none⟩)] (enters_of Tryz.func209 (by kernel_rfl) rfl) [] aM a c
   (w.alloc (.cells #[.slice ga g.length gc] 22)) (aE hn HF.out.size) (HA.out.below (HF.out.mono hn)) (fun W s a' c' hs=>absurd hs (by simp)))
  clear hA hG;go_enter Tryz.func176,Tryz.ntmps176
  go_wp2_with (first|(go_at_call 83;refine CT.out.mono ?_;rintro e w3 ⟨rfl,hb3⟩))
  have HB3:=ae (HF.out.trans (hb3.mono HF.out.size));clear hb3;go_ret;exact⟨by rw[aaY];rfl,HB3.out⟩
 |succ N ih=>
  intro ts ht hf aM ga gc a c w hn hG hA;have IH:=ae ih;have HFT:=ae hf;clear ih hf;have HA:=ae hA;have HG:=ae hG
  have HS:=ae (show ∀s∈ts,T.sizes s.args<=N from fun s hs=>by
   obtain⟨i,hi⟩:=au hs;have h1:=T.size_lt_of_mem hi;have h2:=T.size_eq s;omega)
  have HF:=ae (show Below w.heap.size w (w.alloc (.cells #[.slice ga g.length gc] 22)) from(ag _ w).alloc (af _) _);have hlc:ts.length<=c/\c<=maxLen:=⟨hA.1,hA.2.1⟩
  have CT:=ae (ab7 (fun s=>adQ g s) 209 #[.pointer (some ⟨w.heap.size,0,none⟩)] (enters_of Tryz.func209 (by kernel_rfl) rfl) ts aM a c
   (w.alloc (.cells #[.slice ga g.length gc] 22)) (aE hn HF.out.size) (HA.out.below (HF.out.mono hn))
   (fun W s a' c' hs hW hwf' hA'=>by
    have hz1:(w.alloc (.cells #[.slice ga g.length gc] 22)).heap.size=w.heap.size+1:=by simp
    have hz2:=hW.size;have hGW:=HG.out.below ((HF.out.trans (hW.mono HF.out.size)).mono hn);refine aoL g ga gc s a' c' w.heap.size aM W (by omega) (by omega) ((hW.cell (p:=⟨w.heap.size,0,none⟩) (by simp)).trans (by simp[go_sem])) hGW (HFT.out s hs).1 (fun X hX=> ?_);by_cases hne:s.args=[]
    ·rw[hne];have hA0:aab aM X [] a' c':=by rw[hne] at hA';exact hA'.below (hX.mono (by omega))
     have:=IH.out [] (by simp[T.sizes]) (by simp) aM ga gc a' c' X (by have:=hX.size;omega) (hGW.below (hX.mono (by omega))) hA0;exact this
    ·refine IH.out s.args (HS.out s hs) (fun u hu=> ?_) aM ga gc a' c' X (by have:=hX.size;omega) (hGW.below (hX.mono (by omega))) (hA'.below (hX.mono (by omega)));obtain⟨k,hk⟩:=au hu;have h1:=HFT.out s hs;refine⟨?_,aaA h1.2 hk⟩;have h2:=h1.1;rw[aa4] at h2;simp only[Bool.or_eq_true,decide_eq_true_eq,Bool.and_eq_true,abV,List.all_eq_true] at h2
     rcases h2 with h|h
     ·exact absurd (acV h1.2 h) hne
     ·exact h.2 u hu))
  clear hA hG;go_enter Tryz.func176,Tryz.ntmps176
  go_wp2_with (first|(go_at_call 83;refine CT.out.mono ?_;rintro e w3 ⟨rfl,hb3⟩))
  have HB3:=ae (HF.out.trans (hb3.mono HF.out.size));clear hb3;go_ret;exact⟨by rw[aaY];rfl,HB3.out⟩
theorem acb{g:Sg}{t:T}(hf:aaL g t=true)(hb:bad (T.subs 1 t)=false):∀s∈t.args,aaL g s=true/\bad (T.subs 1 s)=false:=by
 intro s hs;obtain⟨k,hk⟩:=au hs;refine⟨?_,aaA hb hk⟩;rw[aa4] at hf;simp only[Bool.or_eq_true,decide_eq_true_eq,Bool.and_eq_true,abV,List.all_eq_true] at hf
 rcases hf with h|h
 ·rw[acV hb h] at hs;simp at hs
 ·exact h.2 s hs
theorem adC(g:Sg)(t:T)(hsz:t.size<=1000000000000)(aM:Nat)(ga:Option Addr)(gc:Nat)(a:Option Addr)(c:Nat)(w:World)(hn:aM<=w.heap.size)(hG:aaX aM w g ga gc)(hwf:(Lit.int .i64 t.head).wf=true)(hA:aab aM w t.args a c):
 Calls Tryz.prog 136 #[.slice ga g.length gc,tm t.head a t.args.length c] w fun e w'=>e= .returned (.int .i64 (aaH g t))/\Below w.heap.size w w':=by
 obtain⟨W1,hW1⟩:∃W1,w.alloc (aaa t.head a t.args.length c)=W1:=⟨_,rfl⟩;have hF1:Below w.heap.size w W1:=by rw[←hW1];exact(ag _ w).alloc (af _) _
 have HF1:=ae hF1;have LT:=ae (show aai (fun X=>Vc w.heap.size t.head a t.args.length c X) W1 from by rw[←hW1];exact aaP w _ _ _ _);have CC:=ae (fun(W:World) (hW:Below w.heap.size w W)=>af7 g aM ga gc W (aE hn hW.size) (hG.below (hW.mono hn)));have CK:=ae (fun(W:World) (hW:Below w.heap.size w W)=>aca t hsz aM a c W (aE hn hW.size) hwf (hA.below (hW.mono hn)));have CF:=ae (fun(W:World) (hW:Below w.heap.size w W)=>arl g t.size t (af _) aM ga gc a c W (aE hn hW.size) (hG.below (hW.mono hn)) hwf (hA.below (hW.mono hn)));have CP:=ae (fun(adn:∀s∈t.args,aaL g s=true/\bad (T.subs 1 s)=false) (W:World) (hW:Below w.heap.size w W)=>aiS g (T.sizes t.args) t.args (af _) adn aM ga gc a c W (aE hn hW.size) (hG.below (hW.mono hn)) (hA.below (hW.mono hn)));clear hF1 hG hA;go_enter Tryz.func136,Tryz.ntmps136
 go_wp2_with fail
 refine(CC.out _ HF1.out).mono ?_;rintro e w2 ⟨rfl,hb2⟩;have hB2:Below w.heap.size w w2:=HF1.out.trans (hb2.mono HF1.out.size);have LT2:=ae (LT.out.mv hb2);have HB2:=ae hB2;clear hb2 hB2 LT hW1;cases hr:aan g with
 |false=>
  have h1:ahr g=1:=by unfold ahr;rw[hr];rfl
  have HE:=ae (show aaH g t=1 from by unfold aaH;rw[hr];rfl);rw[h1];clear h1 hr;go_wp2;go_ret;exact⟨by rw[HE.out];rfl,HB2.out⟩
 |true=>
  have h1:ahr g=0:=by unfold ahr;rw[hr];rfl
  have HR:=ae hr;rw[h1];clear h1 hr;have hv:=LT2.out.now;obtain⟨hv0,hv1⟩:=hv
  go_wp2_with fail
  refine(CK.out _ HB2.out).mono ?_;rintro e w3 ⟨rfl,hb3⟩;have HB3:=ae (HB2.out.trans (hb3.mono HB2.out.size));have LT3:=ae (LT2.out.mv hb3);clear hb3 LT2 hv0 hv1;by_cases hc:t.check=0
  ·have HC:=ae hc;rw[hc];have hv:=LT3.out.now;obtain⟨hv0,hv1⟩:=hv;clear hc
   go_wp2_with fail
   refine(CF.out _ HB3.out).mono ?_;rintro e w4 ⟨rfl,hb4⟩;have HB4:=ae (HB3.out.trans (hb4.mono HB3.out.size));have LT4:=ae (LT3.out.mv hb4);clear hb4 LT3 hv0 hv1;cases hf:aaL g t with
   |false=>
    have HE:=ae (show aaH g t=1 from by unfold aaH;rw[HR.out,HC.out,hf];rfl);clear hf;go_wp2;go_ret;exact⟨by rw[HE.out];rfl,HB4.out⟩
   |true=>
    have adn:=acb hf (aam HC.out).2.2;have CQ:=ae (CP.out adn w4 HB4.out);have HF:=ae hf;clear hf adn;have hv:=LT4.out.now;obtain⟨hv0,hv1⟩:=hv
    go_wp2_with fail
    refine CQ.out.mono ?_;rintro e w5 ⟨rfl,hb5⟩;have HB5:=ae (HB4.out.trans (hb5.mono HB4.out.size));clear hb5 LT4 hv0 hv1;cases hp:abu g t.args with
    |false=>
     have HE:=ae (show aaH g t=0 from by unfold aaH;rw[HR.out,HC.out,HF.out,hp];rfl);clear hp;go_wp2;go_ret;exact⟨by rw[HE.out];rfl,HB5.out⟩
    |true=>
     have HE:=ae (show aaH g t=10 from by unfold aaH;rw[HR.out,HC.out,HF.out,hp];rfl);clear hp;go_wp2;go_ret;exact⟨by rw[HE.out];rfl,HB5.out⟩
  ·have HE:=ae (show aaH g t=t.check from by unfold aaH;rw[HR.out];simp[hc]);obtain⟨k,hk⟩:∃k,t.check=k:=⟨_,rfl⟩;have hk0:(k != 0)=true:=by rw[←hk];simpa using hc
   rw[hk];have HK:=ae hk;clear hc hk;go_wp2;go_ret;exact⟨by rw[HE.out,HK.out];rfl,HB3.out⟩
end Go.Proofs.YtabfapijgfjflaaGreat
