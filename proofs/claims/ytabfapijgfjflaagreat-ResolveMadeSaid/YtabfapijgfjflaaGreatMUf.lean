import Derived.Test.YtabfapijgfjflaaGreatMQBq
import Derived.Test.YtabfapijgfjflaaGreatMQBl
import Derived.Test.YtabfapijgfjflaaGreatMQBm
import Derived.Test.YtabfapijgfjflaaGreatMQBc
import Derived.Test.YtabfapijgfjflaaGreatMQBa
import Derived.Test.YtabfapijgfjflaaGreatMQBd
import Derived.Test.YtabfapijgfjflaaGreatMQBb
import Derived.Deep.LoopGhost
import Derived.Deep.AppendLies
import Derived.Deep.RegionLaw
import Derived.Deep.OwnRows
import Derived.BigRegion
import Derived.Test.YtabfapijgfjflaaGreatMAl
set_option linter.unusedVariables false
set_option linter.unusedSimpArgs false
set_option maxRecDepth 100000
set_option maxHeartbeats 4000000
namespace Go.Proofs.YtabfapijgfjflaaGreat
open Go.RowKit Go.Maps
theorem ahc:Keyed Tryz.prog 185:=int_keyed Tryz.underlying185
theorem ajN(w:World):(zeroValue 185).run Tryz.prog w= .ok (.int .i64 0) w:=by kernel_rfl
def ahm(W:World)(M n:Nat)(f:Int->Option Value):Prop:=
 ∃D:DataW Value,W.ownsMap Tryz.prog 185 acq M n D/\Maps.size D=n/\∀v,wfi v->Maps.has D (.int .i64 v)=(f v).isSome/\∀u,f v=some u->∀z,D.atKey (.int .i64 v) z= .held u
theorem ahm.lt{W:World}{M n:Nat}{f:Int->Option Value}(h:ahm W M n f):M<W.heap.size:=by
 obtain⟨D,h1,_⟩:=h;exact h1.lt
theorem ahm.kept{W W':World}{M n:Nat}{f:Int->Option Value}(h:ahm W M n f)(hb:W'.heap[M]? =W.heap[M]?):ahm W' M n f:=by
 obtain⟨D,⟨es,clock,hm,r⟩,h2⟩:=h;exact⟨D,⟨es,clock,hb.trans hm,r⟩,h2⟩
theorem ahm.made(w:World):ahm (w.alloc (.map #[] 0)) w.heap.size 0 (fun _=>none):=
 ⟨.map [],World.ownsMap_made w Tryz.prog 185 acq,rfl,fun v _=>⟨rfl,by simp⟩⟩
theorem ahm.look{W:World}{M n:Nat}{f:Int->Option Value}(h:ahm W M n f){t e:TypeId}(ht:Tryz.prog.underlying t=some (.map 185 e)){z:Value}(hz:(zeroValue e).run Tryz.prog W= .ok z W){v:Int}(hv:wfi v):
 (Instr.lookup t (.map (some M)) (.int .i64 v) true).run Tryz.prog W= .ok (.tuple #[(f v).getD z,.bool (f v).isSome]) W/\(Instr.lookup t (.map (some M)) (.int .i64 v) false).run Tryz.prog W= .ok ((f v).getD z) W:=by
 obtain⟨D,h1,_,h3⟩:=h;have hkey:=keyOf_int_mk (P:=Tryz.prog) (k:=185) Tryz.underlying185 hv.wf;obtain⟨q1,q2⟩:=h3 v hv;constructor
 ·obtain⟨u,ps,hrun,hu⟩:=h1.look_ok ahc ht hz (zd:= .held z) (zp:=[]) rfl hkey;rw[hrun,q1];cases hf:f v with
  |none=>
   rw[Maps.atKey_of_not_has (by rw[q1,hf];rfl)] at hu;simp only[acq,aJ,Prod.mk.injEq,DataW.held.injEq] at hu;rw[hu.1];rfl
  |some x=>
   rw[q2 x hf] at hu;simp only[acq,aJ,Prod.mk.injEq,DataW.held.injEq] at hu;rw[hu.1];rfl
 ·obtain⟨u,ps,hrun,hu⟩:=h1.lookup ahc ht hz (zd:= .held z) (zp:=[]) rfl hkey;rw[hrun];cases hf:f v with
  |none=>
   rw[Maps.atKey_of_not_has (by rw[q1,hf];rfl)] at hu;simp only[acq,aJ,Prod.mk.injEq,DataW.held.injEq] at hu;rw[hu.1];rfl
  |some x=>
   rw[q2 x hf] at hu;simp only[acq,aJ,Prod.mk.injEq,DataW.held.injEq] at hu;rw[hu.1];rfl
theorem ahm.put{W:World}{M n:Nat}{f:Int->Option Value}(h:ahm W M n f){t e:TypeId}(ht:Tryz.prog.underlying t=some (.map 185 e)){v:Int}(hv:wfi v)(u:Value)(hn:n<=1000000000000):
 ∃w',(Instr.mapUpdate t (.map (some M)) (.int .i64 v) u).run Tryz.prog W= .ok () w'/\ahm w' M (if(f v).isSome then n else n+1) (upd f v u)/\W.grownBy w' (some M):=by
 obtain⟨D,h1,h2,h3⟩:=h;have hkey:=keyOf_int_mk (P:=Tryz.prog) (k:=185) Tryz.underlying185 hv.wf;obtain⟨w',hrun,r1,r2⟩:=h1.update ahc ht (by unfold maxLen;omega) hkey (val:=u) (d:= .held u) (ps:=[]) rfl;have hM:=h1.isMap;have hs:Maps.size (D.put (.int .i64 v) (.held u))=if(f v).isSome then n else n+1:=by rw[Maps.size_put (h1.tidy ahc),(h3 v hv).1,h2]
 have r3:=acY r1;rw[hs] at r3;refine⟨w',hrun,⟨_,r3,hs,fun x hx=> ?_⟩,r2⟩;by_cases e:x=v
 ·subst e;refine⟨by rw[Maps.has_put_same hM (show WideAt.IsKeyLit (.int .i64 x) from trivial)];simp[upd],fun y hy z=> ?_⟩;simp only[upd,if_pos,aJ] at hy;rw[←hy];exact Maps.atKey_put_same (k:= .int .i64 x) hM (show WideAt.IsKeyLit (.int .i64 x) from trivial) _ z
 ·have hne:Lit.int .i64 x≠Lit.int .i64 v:=by intro e';injection e' with _ e';exact e e'
  refine⟨by rw[Maps.has_put_other hne,(h3 x hx).1];simp[upd,e],fun y hy z=> ?_⟩;simp only[upd,if_neg e] at hy;rw[Maps.atKey_put_other hne];exact(h3 x hx).2 y hy z
def Rep(l:Int->Option Int)(R:Int->Int)(ρ:Int->Nat):Prop:=
 (∀v,l v=none->R v=v)/\∀v u,l v=some u->wfi u/\R u=R v/\R v≠v/\ρ u<ρ v
def val(l:Int->Option Int)(v:Int):Option Value:=(l v).map (Value.int .i64)
theorem ami(l:Int->Option Int)(x u:Int):val (upd l x u)=upd (val l) x (.int .i64 u):=by
 funext v
 unfold val upd;split<;>rfl
theorem Rep.root{l:Int->Option Int}{R:Int->Int}{ρ:Int->Nat}(h:Rep l R ρ):∀(n:Nat) (v:Int),ρ v<=n->R (R v)=R v/\ρ (R v)<=ρ v/\(R v≠v->ρ (R v)<ρ v):=by
 intro n
 induction n with
 |zero=>
  intro v hv;cases hl:l v with
  |none=>rw[h.1 v hl];exact⟨h.1 v hl,af _,fun e=>absurd rfl e⟩
  |some u=>have:=(h.2 v u hl).2.2.2;omega
 |succ n ih=>
  intro v hv;cases hl:l v with
  |none=>rw[h.1 v hl];exact⟨h.1 v hl,af _,fun e=>absurd rfl e⟩
  |some u=>
   obtain⟨_,h2,h3,h4⟩:=h.2 v u hl;have:=ih u (by omega);rw[h2] at this;exact⟨this.1,by omega,fun _=>by omega⟩
theorem Rep.idem{l:Int->Option Int}{R:Int->Int}{ρ:Int->Nat}(h:Rep l R ρ)(v:Int):R (R v)=R v:=(h.root _ v (af _)).1
theorem Rep.wf{l:Int->Option Int}{R:Int->Int}{ρ:Int->Nat}(h:Rep l R ρ):∀(n:Nat) (v:Int),ρ v<=n->wfi v->wfi (R v):=by
 intro n
 induction n with
 |zero=>
  intro v hv hw;cases hl:l v with
  |none=>rw[h.1 v hl];exact hw
  |some u=>have:=(h.2 v u hl).2.2.2;omega
 |succ n ih=>
  intro v hv hw;cases hl:l v with
  |none=>rw[h.1 v hl];exact hw
  |some u=>
   obtain⟨h1,h2,h3,h4⟩:=h.2 v u hl;rw[←h2];exact ih u (by omega) h1
theorem Rep.bound{l:Int->Option Int}{R:Int->Int}{ρ:Int->Nat}(h:Rep l R ρ){v:Int}(hv:R v≠v):∃u,l v=some u:=by
 cases hl:l v with
 |none=>exact absurd (h.1 v hl) hv
 |some u=>exact⟨u,rfl⟩
theorem Rep.short{l:Int->Option Int}{R:Int->Int}{ρ:Int->Nat}(h:Rep l R ρ){v:Int}(hw:wfi v)(hv:R v≠v):Rep (upd l v (R v)) R ρ:=by
 have hr:=h.root _ v (af _);refine⟨fun x hx=> ?_,fun x u hx=> ?_⟩
 ·unfold upd at hx;split at hx
  ·cases hx
  ·exact h.1 x hx
 ·unfold upd at hx;split at hx
  ·rename_i e;subst e;cases hx;exact⟨h.wf _ x (af _) hw,hr.1,hv,hr.2.2 hv⟩
  ·exact h.2 x u hx
def join(R:Int->Int)(x y:Int)(v:Int):Int:=if R v=x then R y else R v
theorem Rep.link{l:Int->Option Int}{R:Int->Int}{ρ:Int->Nat}(h:Rep l R ρ){x y:Int}(hx:R x=x)(hy:R y≠x)(hw:wfi y):∃ρ',Rep (upd l x y) (join R x y) ρ':=by
 refine⟨fun v=>if R v=x then ρ v+ρ y+1 else ρ v,fun v hv=> ?_,fun v u hv=> ?_⟩
 ·unfold upd at hv;split at hv
  ·cases hv
  ·rename_i e;have:=h.1 v hv;unfold join;rw[this,if_neg e]
 ·unfold upd at hv;split at hv
  ·rename_i e;subst e;cases hv;refine⟨hw,?_,?_,?_⟩
   ·unfold join;rw[if_neg hy,if_pos hx]
   ·unfold join;rw[if_pos hx];exact hy
   ·simp only[if_neg hy,if_pos hx];omega
  ·rename_i e;obtain⟨h1,h2,h3,h4⟩:=h.2 v u hv;refine⟨h1,by unfold join;rw[h2],?_,by simp only[h2];split<;>omega⟩;unfold join;split
   ·intro e2;rename_i e1;have:=h.idem y;rw[e2] at this;exact h3 this
   ·exact h3
def ady(B:Nat)(W:World)(mv:Value)(n:Nat)(R:Int->Int):Prop:=
 (mv= .map none/\n=0/\∀v,R v=v)\/∃M l ρ,mv= .map (some M)/\B<=M/\ahm W M n (val l)/\Rep l R ρ
def Value.mapBlock:Value->Option Nat
 | .map r=>r
 |_=>none
theorem ady.kept{B:Nat}{W W':World}{mv:Value}{n:Nat}{R:Int->Int}(h:ady B W mv n R)(hb:∀M,Value.mapBlock mv=some M->W'.heap[M]? =W.heap[M]?):ady B W' mv n R:=by
 rcases h with h|⟨M,l,ρ,rfl,h1,h2,h3⟩
 ·exact .inl h
 ·exact .inr ⟨M,l,ρ,rfl,h1,h2.kept (hb M rfl),h3⟩
theorem ady.idem{B:Nat}{W:World}{mv:Value}{n:Nat}{R:Int->Int}(h:ady B W mv n R)(v:Int):R (R v)=R v:=by
 rcases h with⟨_,_,h⟩|⟨M,l,ρ,rfl,h1,h2,h3⟩
 ·rw[h,h]
 ·exact h3.idem v
theorem ady.wf{B:Nat}{W:World}{mv:Value}{n:Nat}{R:Int->Int}(h:ady B W mv n R){v:Int}(hv:wfi v):wfi (R v):=by
 rcases h with⟨_,_,h⟩|⟨M,l,ρ,rfl,h1,h2,h3⟩
 ·rw[h];exact hv
 ·exact h3.wf _ v (af _) hv
theorem look_nil{v:Int}(hv:wfi v)(w:World):(Instr.lookup 178 (.map none) (.int .i64 v) true).run Tryz.prog w= .ok (.tuple #[.int .i64 0,.bool false]) w:=
 Maps.look_nil true ahc Tryz.underlying178 (ajN w) (keyOf_int_mk (P:=Tryz.prog) (k:=185) Tryz.underlying185 hv.wf)
theorem cell_grown{w w':World}{r:Option Nat}(h:w.grownBy w' r){p:Addr}(hp:p.block<w.heap.size)(hne:some p.block≠r):w'.cell? p=w.cell? p:=by
 have:=h.block p.block hp hne;simp only[World.cell?,this]
def aqJ(B:Nat)(mv:Value)(n:Nat)(R:Int->Int)(v:Int)(w:World)(e:Ending)(w':World):Prop:=
 e= .returned (.int .i64 (R v))/\ady B w' mv n R/\w.grownBy w' (Value.mapBlock mv)
theorem adz(w:World)(r:Option Nat):w.grownBy w r:=⟨rfl,rfl,rfl,af _,fun _ _ _=>rfl⟩
theorem aeH{a b c:World}{r:Option Nat}(h:a.grownBy b r)(k:b.grownBy c r):a.grownBy c r:=
 ⟨k.os.trans h.os,k.tape.trans h.tape,k.output.trans h.output,aE h.size k.size,fun i hi hne=>(k.block i (aF hi h.size) hne).trans (h.block i hi hne)⟩
theorem amj(B g o n:Nat)(mv:Value)(R:Int->Int)(v:Int)(hv:wfi v)(hn:n<=1000000000000)(w:World)(hc:w.cell? ⟨g,o,none⟩=some mv)(hL:ady B w mv n R)(hg:Value.mapBlock mv≠some g):
 Calls Tryz.prog 181 #[.pointer (some ⟨g,o,none⟩),.int .i64 v] w (aqJ B mv n R v w):=by
 rcases hL with⟨rfl,rfl,hR⟩|⟨M,l,ρ,rfl,hBM,hM,hrep⟩
 ·have hRv:=hR v;have HR:=ae hR;clear hR;have hlk:(Instr.lookup 178 (.map none) (.int .i64 v) true).run Tryz.prog w= .ok (.tuple #[.int .i64 0,.bool false]) w:=look_nil hv w;have HW:=ae (show ady B w (.map none) 0 R from .inl ⟨rfl,rfl,HR.out⟩);go_enter Tryz.func181,Tryz.ntmps181;go_wp2
  go_loopg [5,6,7] 0 (fun k x y b wr=>x= .int .i64 v/\b= .bool false/\wr=w)
  case atStart=>exact⟨rfl,rfl,rfl⟩
  case round=>
   obtain⟨rfl,rfl,rfl⟩:=hrel;go_wp2
   go_loopg [1,8] 0 (fun k x y wr'=>x= .int .i64 v/\wr'=wr)
   case atStart=>exact⟨rfl,rfl⟩
   case round=>
    obtain⟨rfl,rfl⟩:=hrel;go_wp2;go_ret;exact⟨by rw[hRv];rfl,HW.out,adz _ _⟩
 ·obtain⟨r,hr⟩:∃r,R v=r:=⟨_,rfl⟩;have hrr:R r=r:=by rw[←hr];exact hrep.idem v
  have hrw:wfi r:=by rw[←hr];exact hrep.wf _ v (af _) hv
  have HR:=ae hr;have HRR:=ae hrr;have HM:=ae hM;have HREP:=ae hrep;have HV:=ae hv;have hMg:M≠g:=fun e=>hg (by rw[e];rfl);have LK:=ae (show ∀x,wfi x->(Instr.lookup 178 (.map (some M)) (.int .i64 x) true).run Tryz.prog w= .ok (.tuple #[(val l x).getD (.int .i64 0),.bool (val l x).isSome]) w from fun x hx=>(hM.look Tryz.underlying178 (ajN w) hx).1);have hlk:=LK.out v hv;have HGC:=ae hc;have HGL:g<w.heap.size:=World.block_lt_of_cell? w ⟨g,o,none⟩ hc;clear hr hrr hM hrep hv hg;go_enter Tryz.func181,Tryz.ntmps181;go_wp2;clear hlk
  go_loopg [5,6,7] (ρ v) (fun k x y b wr=>∃z,k=ρ z/\x= .int .i64 z/\wfi z/\R z=r/\y=(val l z).getD (.int .i64 0)/\b= .bool (val l z).isSome/\w=wr)
  case atStart=>exact⟨v,rfl,rfl,HV.out,HR.out,rfl,rfl,rfl⟩
  case round=>
   obtain⟨z,rfl,rfl,hz,hzr,rfl,rfl,rfl⟩:=hrel;cases hl:l z with
   |some u=>
    obtain⟨q1,q2,q3,q4⟩:=HREP.out.2 z u hl;have hvl:val l z=some (.int .i64 u):=by unfold val;rw[hl];rfl
    rw[hvl];have hlk:=LK.out u q1;have Q1:=ae q1;have Q2:=ae (show R u=r from by rw[q2];exact hzr);have Q4:=ae q4;clear q1 q2 q3 q4 hvl hl hzr hz;simp only[Option.getD_some,Option.isSome_some];go_wp2
    go_roundg (ρ u)
    case measure=>exact Q4.out
    case rel=>exact⟨u,rfl,rfl,Q1.out,Q2.out,rfl,rfl,rfl⟩
   |none=>
    have hvl:val l z=none:=by unfold val;rw[hl];rfl
    rw[hvl];have hzz:=HREP.out.1 z hl;obtain rfl:z=r:=by rw[←hzz];exact hzr
    clear hvl hl hzr hz hzz;simp only[Option.getD_none,Option.isSome_none];go_wp2
    go_loopg [1,8] (ρ v) (fun k x y wr'=>∃z' l',k=ρ z'/\x= .int .i64 z'/\wfi z'/\R z'=z/\ahm wr' M n (val l')/\Rep l' R ρ/\w.grownBy wr' (some M))
    case atStart=>exact⟨v,l,rfl,rfl,HV.out,HR.out,HM.out,HREP.out,adz _ _⟩
    case round=>
     obtain⟨x,l',rfl,rfl,hx,hxr,hM',hrep',hgr⟩:=hrel;have hc':wr.cell? ⟨g,o,none⟩=some (.map (some M)):=(cell_grown hgr (p:=⟨g,o,none⟩) HGL (fun e=>hMg (Option.some.inj e).symm)).trans HGC.out;by_cases e:x=z
     ·subst e;have HF:=ae (show aqJ B (.map (some M)) n R v w (.returned (.int .i64 (R v))) wr from⟨rfl,.inr ⟨M,l',ρ,rfl,hBM,hM',hrep'⟩,hgr⟩);clear hM' hrep' hgr;go_wp2;go_ret;have:=HF.out;rw[HR.out] at this;exact this
     ·have hne:(x==z)=false:=by simpa using e
      obtain⟨u,hu⟩:=hrep'.bound (v:=x) (by rw[hxr];exact fun e'=>e e'.symm);obtain⟨q1,q2,q3,q4⟩:=hrep'.2 x u hu;have hlk:=(hM'.look Tryz.underlying178 (ajN wr) hx).2;have hvl:val l' x=some (.int .i64 u):=by unfold val;rw[hu];rfl
      rw[hvl,Option.getD_some] at hlk;obtain⟨w2,hup,hM2,hg2⟩:=hM'.put Tryz.underlying178 hx (.int .i64 z) hn;rw[hvl,if_pos (by rfl),←ami] at hM2;have hs:=hrep'.short hx q3;rw[hxr] at hs;have H:=ae (show ahm w2 M n (val (upd l' x z))/\Rep (upd l' x z) R ρ/\w.grownBy w2 (some M)/\wfi u/\R u=z/\ρ u<ρ x from⟨hM2,hs,aeH hgr hg2,q1,by rw[q2];exact hxr,q4⟩);clear hM' hrep' hgr hM2 hs hg2 q1 q2 q3 q4 hvl hu hx hxr;go_wp2
      go_roundg (ρ u)
      case measure=>exact H.out.2.2.2.2.2
      case rel=>exact⟨u,_,rfl,rfl,H.out.2.2.2.1,H.out.2.2.2.2.1,H.out.1,H.out.2.1,H.out.2.2.1⟩
theorem ajO(w:World):(Instr.makeMap 178 none).run Tryz.prog w= .ok (.map (some w.heap.size)) (w.alloc (.map #[] 0)):=by
 simp[Instr.makeMap,run_underlying Tryz.underlying178,asInt,asIntOf,Result.andThen]
theorem ahd(w:World)(p:Option Nat):(binOp .eql 178 (.map p) (.map none)).run Tryz.prog w= .ok (.bool p.isNone) w:=by
 have h:∀d,(Op.equalIn (d+1) 178 (.map p) (.map none)).run Tryz.prog w= .ok p.isNone w:=fun d=>by
  cases p<;>simp[Op.equalIn,run_underlying Tryz.underlying178]
 simp only[binOp];simp[show Op.equal 178 (.map p) (.map none)=Op.equalIn (9999+1) 178 (.map p) (.map none) from rfl,h 9999]
def afX(g:Nat)(sv mv vv:Value)(i:Nat):Prop:=i=g\/sv.ownBlock=some i\/Value.mapBlock mv=some i\/vv.ownBlock=some i
structure GStep (g:Nat) (sv mv vv:Value) (w:World) (sv' mv' vv':Value) (w':World):Prop where
 os:w'.os=w.os
 tape:w'.tape=w.tape
 output:w'.output=w.output
 size:w.heap.size<=w'.heap.size
 block:∀i,i<w.heap.size->¬afX g sv mv vv i->w'.heap[i]? =w.heap[i]?
 own:∀i,i<w.heap.size->afX g sv' mv' vv' i->afX g sv mv vv i
theorem GStep.refl(g:Nat)(sv mv vv:Value)(w:World):GStep g sv mv vv w sv mv vv w:=⟨rfl,rfl,rfl,af _,fun _ _ _=>rfl,fun _ _ h=>h⟩
theorem GStep.trans{g:Nat}{sv mv vv sv' mv' vv' sv'' mv'' vv'':Value}{w w' w'':World}(h:GStep g sv mv vv w sv' mv' vv' w')(k:GStep g sv' mv' vv' w' sv'' mv'' vv'' w''):GStep g sv mv vv w sv'' mv'' vv'' w'':=
 ⟨k.os.trans h.os,k.tape.trans h.tape,k.output.trans h.output,aE h.size k.size,fun i hi hn=>(k.block i (aF hi h.size) (fun e=>hn (h.own i hi e))).trans (h.block i hi hn),fun i hi e=>h.own i hi (k.own i (aF hi h.size) e)⟩
theorem GStep.below{g:Nat}{sv mv vv sv' mv' vv':Value}{w w':World}(h:GStep g sv mv vv w sv' mv' vv' w'){B:Nat}(hB:B<=w.heap.size)(ho:∀i,afX g sv mv vv i->B<=i):Below B w w':=
 ⟨h.os,h.tape,h.output,h.size,fun i hi=>h.block i (by omega) (fun e=>by have:=ho i e;omega)⟩
def ajP(B g n:Nat)(sv mv vv:Value)(R:Int->Int)(x y:Int)(w:World)(e:Ending)(w':World):Prop:=
 e= .returned (.tuple #[])/\∃mv',w'.heap[g]? =some (.cells #[sv,mv',vv] 183 (0,0))/\ady B w' mv' (n+1) (join R x y)/\GStep g sv mv vv w sv mv' vv w'/\(∀i,i<w.heap.size->i≠g->Value.mapBlock mv≠some i->w'.heap[i]? =w.heap[i]?)
theorem anj(B g n:Nat)(sv mv vv:Value)(R:Int->Int)(x y:Int)(hx:wfi x)(hy:wfi y)(hRx:R x=x)(hRy:R y≠x)(hn:n<=1000000000000)(w:World)(hB:B<=w.heap.size)(hg:w.heap[g]? =some (.cells #[sv,mv,vv] 183 (0,0)))(hL:ady B w mv n R):
 Calls Tryz.prog 185 #[.pointer (some ⟨g,1,none⟩),.int .i64 x,.int .i64 y] w (ajP B g n sv mv vv R x y w):=by
 have hgl:g<w.heap.size:=(aj.1 hg).1;have hc:w.cell? ⟨g,1,none⟩=some mv:=by simp[World.cell?,hg]
 have hf:w.frozen? ⟨g,1,none⟩=false:=by simp[World.frozen?,hg]
 rcases hL with⟨rfl,rfl,hR⟩|⟨M,l,ρ,rfl,hBM,hM,hrep⟩
 ·have hrep:Rep (fun _=>none) R (fun _=>0):=⟨fun v _=>hR v,by simp⟩;obtain⟨ρ',hr'⟩:=hrep.link hRx hRy hy;obtain⟨w1,hw1⟩:∃w1,(w.alloc (.map #[] 0)).setCell ⟨g,1,none⟩ (.map (some w.heap.size))=w1:=⟨_,rfl⟩
  have hM1:ahm w1 w.heap.size 0 (val fun _=>none):=by
   refine(ahm.made w).kept ?_;rw[←hw1];exact an _ _ _ _ (by simp;omega)
  have hg1:w1.heap[g]? =some (.cells #[sv,.map (some w.heap.size),vv] 183 (0,0)):=by
   rw[←hw1];have h0:(w.alloc (.map #[] 0)).heap[g]? =some (.cells #[sv,.map none,vv] 183 (0,0)):=(az _ _ _ hgl).trans hg;rw[heap_setCell_same h0];rfl
  have hz1:w1.heap.size=w.heap.size+1:=by rw[←hw1];simp
  obtain⟨w2,hup,hM2,hg2⟩:=hM1.put Tryz.underlying178 hx (.int .i64 y) (by omega)
  have HK:=ae (show ajP B g 0 sv (.map none) vv R x y w (.returned (.tuple #[])) w2 from by
   have hk:∀i,i<w.heap.size->i≠g->w2.heap[i]? =w.heap[i]? :=fun i hi hne=>by
    refine(hg2.block i (by omega) (fun e=>by cases e;omega)).trans ?_;rw[←hw1];exact(an _ _ _ _ hne).trans (az _ _ _ hi)
   refine⟨rfl,.map (some w.heap.size),(hg2.block g (by omega) (fun e=>by cases e;omega)).trans hg1,.inr ⟨w.heap.size,_,ρ',rfl,hB,by rw[ami];simpa[val] using hM2,hr'⟩,⟨?_,?_,?_,?_,fun i hi hn=>hk i hi (fun e=>hn (.inl e)),fun i hi e=> ?_⟩,fun i hi hne _=>hk i hi hne⟩
   ·exact hg2.os.trans (by rw[←hw1];rfl)
   ·exact hg2.tape.trans (by rw[←hw1];rfl)
   ·exact hg2.output.trans (by rw[←hw1];rfl)
   ·have:=hg2.size;omega
   ·rcases e with e|e|e|e
    ·exact .inl e
    ·exact .inr (.inl e)
    ·cases e;omega
    ·exact .inr (.inr (.inr e)))
  have hc1:w1.cell? ⟨g,1,none⟩=some (.map (some w.heap.size)):=by simp[World.cell?,hg1]
  have hmk:=ajO w;clear hM2 hg2 hM1 hr' hrep hR hg1 hz1 hg;have heq:=ahd w none;go_enter Tryz.func185,Tryz.ntmps185;go_wp2;refine bodyPost_end (v:= .tuple #[]) (by simp[results,Tryz.results185,go_sem]) rfl ?_;exact HK.out
 ·have hMg:M≠g:=fun e=>by
   subst e;obtain⟨D,⟨es,clock,hb,_⟩,_⟩:=hM;rw[hb] at hg;cases hg
  have hlx:l x=none:=by
   cases hl:l x with
   |none=>rfl
   |some u=>exact absurd hRx (hrep.2 x u hl).2.2.1
  obtain⟨ρ',hr'⟩:=hrep.link hRx hRy hy;obtain⟨w2,hup,hM2,hg2⟩:=hM.put Tryz.underlying178 hx (.int .i64 y) hn;have hvx:val l x=none:=by unfold val;rw[hlx];rfl
  rw[hvx] at hM2
  have HK:=ae (show ajP B g n sv (.map (some M)) vv R x y w (.returned (.tuple #[])) w2 from
   ⟨rfl,.map (some M),(hg2.block g hgl (fun e=>hMg (Option.some.inj e).symm)).trans hg,.inr ⟨M,_,ρ',rfl,hBM,by rw[ami];simpa using hM2,hr'⟩,⟨hg2.os,hg2.tape,hg2.output,hg2.size,fun i hi hn=>hg2.block i hi (fun e=>hn (.inr (.inr (.inl e.symm)))),fun i hi e=>e⟩,fun i hi hne hm=>hg2.block i hi (fun e=>hm e.symm)⟩)
  clear hM2 hg2 hM hr' hrep hvx hlx hg;have heq:=ahd w (some M);go_enter Tryz.func185,Tryz.ntmps185;go_wp2;refine bodyPost_end (v:= .tuple #[]) (by simp[results,Tryz.results185,go_sem]) rfl ?_;exact HK.out
theorem auV:(Tryz.prog.info? 221).map (fun i=>(i.zero,i.size,i.bytes))=some (some (.agg #[.int .i64 0,.slice none 0 0,.slice none 0 0]),3,56):=by kernel_rfl
theorem ank:(Tryz.prog.info? 185).map (fun i=>(i.zero,i.size,i.bytes))=some (some (.int .i64 0),1,8):=by kernel_rfl
abbrev SyU:=T×List Int
def aaW(B L:Nat)(W:World)(vv:Value)(b:Nat):Prop:=B<=b/\b<L/\vv.ownBlock≠some b/\∃cur,W.heap[b]? =some (.cells cur 185 (0,0))
def ab3(B L:Nat)(W:World)(vv:Value)(as_:List Int)(r:Value):Prop:=
 (as_=[]/\r= .slice none 0 0)\/∃ab cap,r= .slice (some ⟨ab,0,none⟩) as_.length cap/\aaW B L W vv ab/\as_.length<=cap/\cap<=maxLen/\∀(j:Nat) (z:Int),as_[j]? =some z->W.cell? ⟨ab,j,none⟩=some (.int .i64 z)
def aaU(B L aM:Nat)(W:World)(vv:Value):List SyU->List Value->Prop
 |[],[]=>True
 |(t,as_)::s,h::l::r::xs=>(Lit.int .i64 t.head).wf=true/\h= .int .i64 t.head/\(∃a c,l= .slice a t.args.length c/\aab aM W t.args a c)/\ab3 B L W vv as_ r/\aaU B L aM W vv s xs
 |_,_=>False
theorem ab3.keep{B L:Nat}{W W':World}{vv vv':Value}{as_:List Int}{r:Value}(h:ab3 B L W vv as_ r)(hk:∀b,aaW B L W vv b->W'.heap[b]? =W.heap[b]? /\vv'.ownBlock≠some b):ab3 B L W' vv' as_ r:=by
 rcases h with h|⟨ab,cap,rfl,h1,h2,h3,h4⟩
 ·exact .inl h
 ·obtain⟨k1,k2⟩:=hk ab h1;obtain⟨p1,p0,p2,cur,p3⟩:=h1;exact .inr ⟨ab,cap,rfl,⟨p1,p0,k2,cur,k1.trans p3⟩,h2,h3,fun j z hz=>(aq (a:=⟨ab,j,none⟩) k1).trans (h4 j z hz)⟩
theorem aaU.keep{B L aM:Nat}{W W':World}{vv vv':Value}(hl:∀b,b<aM->W'.heap[b]? =W.heap[b]?)(hk:∀b,aaW B L W vv b->W'.heap[b]? =W.heap[b]? /\vv'.ownBlock≠some b):∀{s:List SyU} {xs:List Value},aaU B L aM W vv s xs->aaU B L aM W' vv' s xs
 |[],[],_=>trivial
 |(_,_)::_,_::_::_::_,⟨h1,h2,⟨a,c,h3,h4⟩,h5,h6⟩=>⟨h1,h2,⟨a,c,h3,aao.1 ((aao.2 h4).keep (fun b hb=>hl b hb) (fun b hb=>hb))⟩,h5.keep hk,aaU.keep hl hk h6⟩
 |[],_::_,h=>h.elim
 |(_,_)::_,[],h=>h.elim
 |(_,_)::_,[_],h=>h.elim
 |(_,_)::_,[_,_],h=>h.elim
theorem aaU.snoc{B L aM:Nat}{W:World}{vv:Value}{t:T}{a:Option Addr}{c:Nat}(h1:(Lit.int .i64 t.head).wf=true)(h4:aab aM W t.args a c):∀{s:List SyU} {xs:List Value},aaU B L aM W vv s xs->aaU B L aM W vv (s++[(t,[])]) (xs++[.int .i64 t.head,.slice a t.args.length c,.slice none 0 0])
 |[],[],_=>⟨h1,rfl,⟨a,c,rfl,h4⟩,.inl ⟨rfl,rfl⟩,trivial⟩
 |(_,_)::_,_::_::_::_,⟨p1,p2,p3,p4,p5⟩=>⟨p1,p2,p3,p4,aaU.snoc h1 h4 p5⟩
 |[],_::_,h=>h.elim
 |(_,_)::_,[],h=>h.elim
 |(_,_)::_,[_],h=>h.elim
 |(_,_)::_,[_,_],h=>h.elim
theorem aaU.get{B L aM:Nat}{W:World}{vv:Value}:∀{s:List SyU} {xs:List Value} {j:Nat} {t:T} {as_:List Int},aaU B L aM W vv s xs->s[j]? =some (t,as_)->
 (Lit.int .i64 t.head).wf=true/\xs[j*3]? =some (.int .i64 t.head)/\(∃a c,xs[j*3+1]? =some (.slice a t.args.length c)/\aab aM W t.args a c)/\∃r,xs[j*3+2]? =some r/\ab3 B L W vv as_ r
 |[],[],j,t,as_,_,hj=>by simp at hj
 |(y,u)::s,h::l::r::xs,0,t,as_,⟨h1,h2,⟨a,c,h3,h4⟩,h5,h6⟩,hj=>by
  simp at hj;obtain⟨rfl,rfl⟩:=hj;subst h2 h3;exact⟨h1,rfl,⟨a,c,rfl,h4⟩,r,rfl,h5⟩
 |(y,u)::s,h::l::r::xs,j+1,t,as_,⟨h1,h2,h3,h4,h6⟩,hj=>by
  have:=aaU.get h6 (j:=j) (t:=t) (as_:=as_) (by simpa using hj);rw[show(j+1)*3=j*3+3 from by omega];exact this
 |[],_::_,_,_,_,h,_=>h.elim
 |(_,_)::_,[],_,_,_,h,_=>h.elim
 |(_,_)::_,[_],_,_,_,h,_=>h.elim
 |(_,_)::_,[_,_],_,_,_,h,_=>h.elim
theorem aaU.set{B L aM:Nat}{W:World}{vv:Value}{as':List Int}{r':Value}(hr:ab3 B L W vv as' r'):∀{s:List SyU} {xs:List Value} {j:Nat} {t:T} {as_:List Int},aaU B L aM W vv s xs->s[j]? =some (t,as_)->
 aaU B L aM W vv (s.set j (t,as')) (xs.set (j*3+2) r')
 |[],[],j,t,as_,_,hj=>by simp at hj
 |(y,u)::s,h::l::r::xs,0,t,as_,⟨h1,h2,h3,h5,h6⟩,hj=>by
  simp at hj;obtain⟨rfl,rfl⟩:=hj;exact⟨h1,h2,h3,hr,h6⟩
 |(y,u)::s,h::l::r::xs,j+1,t,as_,⟨h1,h2,h3,h4,h6⟩,hj=>by
  have:=aaU.set hr h6 (j:=j) (t:=t) (as_:=as_) (by simpa using hj);rw[show(j+1)*3+2=j*3+2+1+1+1 from by omega];exact⟨h1,h2,h3,h4,this⟩
 |[],_::_,_,_,_,h,_=>h.elim
 |(_,_)::_,[],_,_,_,h,_=>h.elim
 |(_,_)::_,[_],_,_,_,h,_=>h.elim
 |(_,_)::_,[_,_],_,_,_,h,_=>h.elim
structure IsG (B L aM g:Nat) (W:World) (sv mv vv:Value) (syms:List SyU) (n:Nat) (R:Int->Int) (vars:List Int):Prop where
 heap:W.heap[g]? =some (.cells #[sv,mv,vv] 183 (0,0))
 low:aM<=B
 base:B<=g
 rows:∃xs,W.ownsRow B 221 3 sv syms.length xs/\aaU B L aM W vv syms xs
 links:ady B W mv n R
 vrow:W.ownsRow B 185 1 vv vars.length (vars.map (Value.int .i64))
section
variable {B L aM g:Nat} {W:World} {sv mv vv:Value} {syms:List SyU} {n:Nat} {R:Int->Int} {vars:List Int}
theorem IsG.lt(h:IsG B L aM g W sv mv vv syms n R vars):g<W.heap.size:=(aj.1 h.heap).1
theorem rowBlock{w:World}{base:Nat}{e:TypeId}{size:Nat}{v:Value}{k:Nat}{xs:List Value}(h:w.ownsRow base e size v k xs){b:Nat}(hb:v.ownBlock=some b):base<=b/\b<w.heap.size/\∃cur,w.heap[b]? =some (.cells cur e (0,0)):=by
 have hlt:=h.lt b hb
 rcases h.2 with⟨rfl,_⟩|⟨g,cap,cur,rfl,hg,hh,_⟩
 ·cases hb
 ·simp only[Value.ownBlock,aJ] at hb;subst hb;exact⟨hlt.1,hlt.2,cur,hh⟩
theorem IsG.sv_ne(h:IsG B L aM g W sv mv vv syms n R vars):sv.ownBlock≠some g:=fun e=>by
 obtain⟨xs,h1,_⟩:=h.rows;obtain⟨_,_,cur,hc⟩:=rowBlock h1 e;rw[h.heap] at hc;simp at hc
theorem IsG.vv_ne(h:IsG B L aM g W sv mv vv syms n R vars):vv.ownBlock≠some g:=fun e=>by
 obtain⟨_,_,cur,hc⟩:=rowBlock h.vrow e;rw[h.heap] at hc;simp at hc
theorem ady.map_block{B:Nat}{W:World}{mv:Value}{n:Nat}{R:Int->Int}(h:ady B W mv n R){M:Nat}(hM:Value.mapBlock mv=some M):B<=M/\M<W.heap.size/\∃es c,W.heap[M]? =some (.map es c):=by
 rcases h with⟨rfl,_⟩|⟨M',l,ρ,rfl,h1,h2,h3⟩
 ·cases hM
 ·cases hM;obtain⟨D,⟨es,clock,hb,_⟩,_⟩:=id h2;exact⟨h1,h2.lt,es,clock,hb⟩
theorem IsG.mv_ne(h:IsG B L aM g W sv mv vv syms n R vars):Value.mapBlock mv≠some g:=fun e=>by
 obtain⟨_,_,es,c,hc⟩:=h.links.map_block e;rw[h.heap] at hc;cases hc
theorem IsG.own_ge(h:IsG B L aM g W sv mv vv syms n R vars){i:Nat}(hi:afX g sv mv vv i):B<=i:=by
 rcases hi with rfl|hi|hi|hi
 ·exact h.base
 ·obtain⟨xs,h1,_⟩:=h.rows;exact(rowBlock h1 hi).1
 ·exact(h.links.map_block hi).1
 ·exact(rowBlock h.vrow hi).1
theorem IsG.own_lt(h:IsG B L aM g W sv mv vv syms n R vars){i:Nat}(hi:afX g sv mv vv i):i<W.heap.size:=by
 rcases hi with rfl|hi|hi|hi
 ·exact h.lt
 ·obtain⟨xs,h1,_⟩:=h.rows;exact(rowBlock h1 hi).2.1
 ·exact(h.links.map_block hi).2.1
 ·exact(rowBlock h.vrow hi).2.1
theorem IsG.node_not(h:IsG B L aM g W sv mv vv syms n R vars){b:Nat}(hb:aaW B L W vv b):¬afX g sv mv vv b:=fun e=>by
 obtain⟨_,_,hv,cur,hc⟩:=hb
 rcases e with rfl|e|e|e
 ·rw[h.heap] at hc;simp at hc
 ·obtain⟨xs,h1,_⟩:=h.rows;obtain⟨_,_,cur',hc'⟩:=rowBlock h1 e;rw[hc'] at hc;simp at hc
 ·obtain⟨_,_,es,c,hc'⟩:=h.links.map_block e;rw[hc'] at hc;cases hc
 ·exact hv e
theorem aaW.lt{b:Nat}(h:aaW B L W vv b):b<W.heap.size:=by
 obtain⟨_,_,_,cur,hc⟩:=h;exact(aj.1 hc).1
theorem ownsRow_kept{w w':World}{base:Nat}{e:TypeId}{size:Nat}{v:Value}{k:Nat}{xs:List Value}(h:w.ownsRow base e size v k xs)(hb:∀b,v.ownBlock=some b->w'.heap[b]? =w.heap[b]?):w'.ownsRow base e size v k xs:=by
 obtain⟨h1,h2⟩:=h;refine⟨h1,?_⟩
 rcases h2 with h2|⟨g,cap,cur,rfl,p1,p2,p3⟩
 ·exact .inl h2
 ·exact .inr ⟨g,cap,cur,rfl,p1,(hb g rfl).trans p2,p3⟩
theorem IsG.keptBut(h:IsG B L aM g W sv mv vv syms n R vars){W':World}(hk:∀i,i<aM\/afX g sv mv vv i\/aaW B L W vv i->W'.heap[i]? =W.heap[i]?):IsG B L aM g W' sv mv vv syms n R vars:=by
 obtain⟨xs,r1,r2⟩:=h.rows;exact⟨(hk g (.inr (.inl (.inl rfl)))).trans h.heap,h.low,h.base,⟨xs,ownsRow_kept r1 (fun b hb=>hk b (.inr (.inl (.inr (.inl hb))))),r2.keep (fun b hb=>hk b (.inl hb)) (fun b hb=>⟨hk b (.inr (.inr hb)),hb.2.2.1⟩)⟩,h.links.kept (fun M hM=>hk M (.inr (.inl (.inr (.inr (.inl hM)))))),ownsRow_kept h.vrow (fun b hb=>hk b (.inr (.inl (.inr (.inr (.inr hb))))))⟩
theorem IsG.kept(h:IsG B L aM g W sv mv vv syms n R vars){W':World}(hk:∀i,i<W.heap.size->W'.heap[i]? =W.heap[i]?)(hB:B<=W.heap.size):IsG B L aM g W' sv mv vv syms n R vars:=
 h.keptBut fun i hi=>hk i (by
  rcases hi with hi|hi|hi
  ·have:=h.low;omega
  ·exact h.own_lt hi
  ·exact hi.lt)
theorem ab3.mono{as_:List Int}{r:Value}(h:ab3 B L W vv as_ r){L':Nat}(hL:L<=L'):ab3 B L' W vv as_ r:=by
 rcases h with h|⟨ab,cap,rfl,⟨h1,h1',h1''⟩,h2⟩
 ·exact .inl h
 ·exact .inr ⟨ab,cap,rfl,⟨h1,by omega,h1''⟩,h2⟩
theorem aaU.mono{L':Nat}(hL:L<=L'):∀{s:List SyU} {xs:List Value},aaU B L aM W vv s xs->aaU B L' aM W vv s xs
 |[],[],_=>trivial
 |(_,_)::_,_::_::_::_,⟨h1,h2,h3,h5,h6⟩=>⟨h1,h2,h3,h5.mono hL,aaU.mono hL h6⟩
 |[],_::_,h=>h.elim
 |(_,_)::_,[],h=>h.elim
 |(_,_)::_,[_],h=>h.elim
 |(_,_)::_,[_,_],h=>h.elim
theorem IsG.mono(h:IsG B L aM g W sv mv vv syms n R vars){L':Nat}(hL:L<=L'):IsG B L' aM g W sv mv vv syms n R vars:=by
 obtain⟨xs,r1,r2⟩:=h.rows;exact⟨h.heap,h.low,h.base,⟨xs,r1,r2.mono hL⟩,h.links,h.vrow⟩
theorem IsG.later(h:IsG B L aM g W sv mv vv syms n R vars){W':World}(hb:Below W.heap.size W W')(hB:B<=W.heap.size):IsG B L aM g W' sv mv vv syms n R vars:=h.kept (fun i hi=>hb.block i hi) hB
theorem ab3.step(hG:IsG B L aM g W sv mv vv syms n R vars){as_:List Int}{r:Value}(h:ab3 B L W vv as_ r){sv' mv' vv':Value}{W':World}(st:GStep g sv mv vv W sv' mv' vv' W'):ab3 B L W' vv' as_ r:=
 h.keep fun b hb=>⟨st.block b hb.lt (hG.node_not hb),fun e=>hG.node_not hb (st.own b hb.lt (.inr (.inr (.inr e))))⟩
theorem GStep.later{g:Nat}{sv mv vv:Value}{w w':World}(hb:Below w.heap.size w w'):GStep g sv mv vv w sv mv vv w':=⟨hb.os,hb.tape,hb.output,hb.size,fun i hi _=>hb.block i hi,fun _ _ h=>h⟩
end
theorem aeI(v:Int)(w:World):Calls Tryz.prog 182 #[.int .i64 v] w fun e w'=>e= .returned (.bool (decide (v<256)))/\w'=w:=by
 go_enter Tryz.func182,Tryz.ntmps182;go_wp2;go_ret;exact⟨rfl,rfl⟩
def abU(syms:List SyU)(t:T):List SyU:=if t.head<0 then syms else syms++[(t,[])]
def ahn(syms:List SyU)(t:T):Int:=if t.head<0 then-1-t.head else 256+syms.length
theorem aaQ{w w':World}{a:Addr}(h:w'.heap[a.block]? =w.heap[a.block]?):w'.frozen? a=w.frozen? a:=by simp only[World.frozen?,h]
theorem abW{w w':World}{r:Option Nat}(h:w.grownBy w' r){p:Addr}(hp:p.block<w.heap.size)(hne:some p.block≠r):w'.frozen? p=w.frozen? p:=aaQ (h.block p.block hp hne)
theorem aqK{z:Int}(h:(Lit.int .i64 z).wf=true): -9223372036854775808<=z/\z<=9223372036854775807:=by
 simp only[Lit.wf,Bool.and_eq_true,decide_eq_true_iff] at h;have h1:IntKind.i64.min= -9223372036854775808:=by decide
 have h2:IntKind.i64.max=9223372036854775807:=by decide
 omega
theorem aqL{B L aM g:Nat}{sv mv vv:Value}{syms:List SyU}{n:Nat}{R:Int->Int}{vars:List Int}{t:T}{a:Option Addr}{c:Nat}{w w5:World}{ob:Obj}{xs:List Value}{g5 cap5:Nat}(hG:IsG B L aM g w sv mv vv syms n R vars)(hB:B<=w.heap.size)(htw:(Lit.int .i64 t.head).wf=true)(hA1:aab aM w t.args a c)
 (hrow:w.ownsRow B 221 3 sv syms.length xs) (hsy:aaU B L aM w vv syms xs) (hgrow:(w.drew.alloc ob).grownBy w5 sv.ownBlock)
 (hown5:w5.ownsRow B 221 3 (.slice (some ⟨g5,0,none⟩) (syms.length+1) cap5) (syms.length+1) (xs++[.int .i64 t.head,.slice a t.args.length c,.slice none 0 0])) (hat:sv.ownBlock=some g5\/g5=w.heap.size+1):
 IsG B L aM g (w5.setCell ⟨g,0,none⟩ (.slice (some ⟨g5,0,none⟩) (syms.length+1) cap5)) (.slice (some ⟨g5,0,none⟩) (syms.length+1) cap5) mv vv (syms++[(t,[])]) n R vars/\
  GStep g sv mv vv w (.slice (some ⟨g5,0,none⟩) (syms.length+1) cap5) mv vv (w5.setCell ⟨g,0,none⟩ (.slice (some ⟨g5,0,none⟩) (syms.length+1) cap5)):=by
 have hgl:=hG.lt;have hsg:=hG.sv_ne;have hlow:=hG.low;have hsz:w.heap.size+1<=w5.heap.size:=by have:=hgrow.size;simpa using this
 have hk0:∀i,i<w.heap.size->sv.ownBlock≠some i->w5.heap[i]? =w.heap[i]? :=fun i hi hs=>(hgrow.block i (by simp;omega) (fun e=>hs e.symm)).trans (az w.drew ob i hi);have hk:∀i,i<w.heap.size->sv.ownBlock≠some i->i≠g->(w5.setCell ⟨g,0,none⟩ (.slice (some ⟨g5,0,none⟩) (syms.length+1) cap5)).heap[i]? =w.heap[i]? :=fun i hi hs hne=>(an _ _ _ _ hne).trans (hk0 i hi hs)
 have hg5:g5≠g:=fun e=>by
  subst e
  rcases hat with h|h
  ·exact hsg h
  ·omega
 have hnode:∀b,aaW B L w vv b->(w5.setCell ⟨g,0,none⟩ (.slice (some ⟨g5,0,none⟩) (syms.length+1) cap5)).heap[b]? =w.heap[b]? /\vv.ownBlock≠some b:=fun b hb=>by
  have:=hG.node_not hb;exact⟨hk b hb.lt (fun e=>this (.inr (.inl e))) (fun e=>this (.inl e)),hb.2.2.1⟩
 have hvb:∀b,vv.ownBlock=some b->sv.ownBlock≠some b:=fun b hb hs=>by
  obtain⟨_,_,cur,hc⟩:=rowBlock hG.vrow hb;obtain⟨_,_,cur',hc'⟩:=rowBlock hrow hs;rw[hc] at hc';simp at hc'
 have hmb:∀b,Value.mapBlock mv=some b->sv.ownBlock≠some b:=fun b hb hs=>by
  obtain⟨_,_,es,cl,hc⟩:=hG.links.map_block hb;obtain⟨_,_,cur',hc'⟩:=rowBlock hrow hs;rw[hc] at hc';cases hc'
 have hlo:∀b,b<aM->(w5.setCell ⟨g,0,none⟩ (.slice (some ⟨g5,0,none⟩) (syms.length+1) cap5)).heap[b]? =w.heap[b]? :=fun b hb=>hk b (by omega) (fun e=>by have:=(rowBlock hrow e).1;omega) (by have:=hG.base;omega);refine⟨⟨?_,hG.low,hG.base,⟨_,by simpa using abd hown5 (by simpa[Value.ownBlock] using hg5) _,?_⟩,?_,?_⟩,⟨hgrow.os,hgrow.tape,hgrow.output,by simp;omega,fun i hi hn=>hk i hi (fun e=>hn (.inr (.inl e))) (fun e=>hn (.inl e)),fun i hi e=> ?_⟩⟩
 ·have h5:w5.heap[g]? =some (.cells #[sv,mv,vv] 183 (0,0)):=(hk0 g hgl hsg).trans hG.heap;rw[heap_setCell_same h5];rfl
 ·exact(hsy.keep hlo hnode).snoc htw (aao.1 ((aao.2 hA1).keep (fun b hb=>hlo b hb) (fun b hb=>hb)))
 ·exact hG.links.kept (fun M hM=>hk M (hG.links.map_block hM).2.1 (hmb M hM) (fun e=>hG.mv_ne (e▸hM)))
 ·exact ownsRow_kept hG.vrow (fun b hb=>hk b (rowBlock hG.vrow hb).2.1 (hvb b hb) (fun e=>hG.vv_ne (e▸hb)))
 ·rcases e with e|e|e|e
  ·exact .inl e
  ·simp only[Value.ownBlock,aJ] at e;subst e
   rcases hat with h|h
   ·exact .inr (.inl h)
   ·omega
  ·exact .inr (.inr (.inl e))
  ·exact .inr (.inr (.inr e))
def afY(B L aM g:Nat)(sv mv vv:Value)(syms:List SyU)(n:Nat)(R:Int->Int)(vars:List Int)(t:T)(w:World)(e:Ending)(w':World):Prop:=
 e= .returned (.int .i64 (ahn syms t))/\∃sv',IsG B L aM g w' sv' mv vv (abU syms t) n R vars/\GStep g sv mv vv w sv' mv vv w'
theorem ajQ(B L aM g:Nat)(sv mv vv:Value)(syms:List SyU)(n:Nat)(R:Int->Int)(vars:List Int)(t:T)(a:Option Addr)(c:Nat)(w:World)(hB:B<=w.heap.size)(hG:IsG B L aM g w sv mv vv syms n R vars)(hsl:syms.length<=1000000000000)(htw:(Lit.int .i64 t.head).wf=true)(hA:aab aM w t.args a c):
 Calls Tryz.prog 145 #[.pointer (some ⟨g,0,none⟩),tm t.head a t.args.length c] w (afY B L aM g sv mv vv syms n R vars t w):=by
 obtain⟨w1,hw1⟩:∃w1,w.alloc (aaa t.head a t.args.length c)=w1:=⟨_,rfl⟩;have hb1:Below w.heap.size w w1:=by rw[←hw1];exact(ag _ _).alloc (af _) _
 have hz1:w1.heap.size=w.heap.size+1:=by rw[←hw1];simp
 have c0:w1.cell? ⟨w.heap.size,0,none⟩=some (.int .i64 t.head):=by rw[←hw1];simp[go_sem]
 have c1:w1.cell? ⟨w.heap.size,1,none⟩=some (.slice a t.args.length c):=by rw[←hw1];simp[go_sem]
 have hG1:=hG.later hb1 hB;have hS1:GStep g sv mv vv w sv mv vv w1:=GStep.later hb1;have hwf:=htw;have hwf:=aqK hwf;by_cases hneg:t.head<0
 ·have HP:=ae (show afY B L aM g sv mv vv syms n R vars t w (.returned (.int .i64 (-1-t.head))) w1 from⟨by unfold ahn;rw[if_pos hneg],sv,by unfold abU;rw[if_pos hneg];exact hG1,hS1⟩);have hwr:=IntWalk.i64_in (-1-t.head) ⟨by omega,by omega⟩;clear hG hG1 hS1 hb1 hz1;go_enter Tryz.func145,Tryz.ntmps145;go_wp2;go_ret;exact HP.out
 ·have hgl:=hG1.lt;have g0:w1.cell? ⟨g,0,none⟩=some sv:=by simp[World.cell?,hG1.heap]
  have gf:w1.frozen? ⟨g,0,none⟩=false:=by simp[World.frozen?,hG1.heap]
  obtain⟨i0,hi,hz0,hzz,hz2⟩:=info_parts auV;obtain⟨xs,hrow,hsy⟩:=hG1.rows;have HG1:=ae hG1;have HA1:=ae (hA.below (hb1.mono (aE hG.low hB)));have HZ1:=ae hz1;have hB1:B<=w1.heap.size:=by omega
  have hsg:=hG1.sv_ne;clear hG hG1 hb1 hz1;go_enter Tryz.func145,Tryz.ntmps145;go_wp2;have hkm:syms.length+1<=maxLen:=by unfold maxLen;omega
  have gd:∀ob,(w1.drew.alloc ob).cell? ⟨g,0,none⟩=some sv:=fun ob=>(aq (a:=⟨g,0,none⟩) (az w1.drew ob _ hgl)).trans g0;have gfd:∀ob,(w1.drew.alloc ob).frozen? ⟨g,0,none⟩=false:=fun ob=>(aaQ (a:=⟨g,0,none⟩) (az w1.drew ob _ hgl)).trans gf
  go_region_law (first
   |(refine step_append_lies _ (by rfl) _ _ _ (by rfl) B 221 i0 _ 3 56 Tryz.underlying177 hi hz0 hzz hz2 rfl (by omega) sv syms.length xs (by rfl) ((show w1.drew.ownsRow B 221 3 sv syms.length xs from hrow).alloc _)
      ⟨w1.heap.size,0,none⟩ 1 1 [.int .i64 t.head,.slice a t.args.length c,.slice none 0 0] (by rfl) (by rfl) (World.news_of_block (cs:=#[.int .i64 t.head,.slice a t.args.length c,.slice none 0 0]) (t:=221) (fr:=(0,0)) (heap_alloc_new w1.drew _)) (by simp[Value.oneCell'])
      (by omega) hkm (by omega) (by simp;omega) (w1.heap.size+1) (by simp) ?_;intro g5 cap5 w5 hown5 hgrow5 hat5 hlt5;have ho5:w5.cell? ⟨g,0,none⟩=some sv:=(cell_grown hgrow5 (p:=⟨g,0,none⟩) (by simp;omega) (fun e=>hsg e.symm)).trans (gd _);have hf5:w5.frozen? ⟨g,0,none⟩=false:=(abW hgrow5 (p:=⟨g,0,none⟩) (by simp;omega) (fun e=>hsg e.symm)).trans (gfd _)))
  all_goals
   have hst:=aqL HG1.out hB1 htw (hA1:=HA1.out) hrow hsy hgrow5 hown5 hat5;have HP:=ae (show afY B L aM g sv mv vv syms n R vars t w (.returned (.int .i64 (256+(syms.length:Int)))) (w5.setCell ⟨g,0,none⟩ (.slice (some ⟨g5,0,none⟩) (syms.length+1) cap5)) from⟨by unfold ahn;rw[if_neg (show ¬t.head<0 by omega)],_,by unfold abU;rw[if_neg (show ¬t.head<0 by omega)];exact hst.1,hS1.trans hst.2⟩);have hw5:g<w5.heap.size:=by have:=hgrow5.size;simp at this;omega
   clear hst hown5 hgrow5 hat5;go_wp2;go_ret;exact HP.out
def aag(syms:List SyU):List T->List SyU×List Int
 |[]=>(syms,[])
 |t::ts=>let p:=aag (abU syms t) ts;(p.1,ahn syms t::p.2)
theorem ahe(t:T):∀(ts:List T) (syms:List SyU),aag syms (ts++[t])=(abU (aag syms ts).1 t,(aag syms ts).2++[ahn (aag syms ts).1 t])
 |[],syms=>rfl
 |s::ts,syms=>by
  have:=ahe t ts (abU syms s);simp only[List.cons_append,aag,this]
theorem abm:∀(ts:List T) (syms:List SyU),(aag syms ts).2.length=ts.length
 |[],_=>rfl
 |t::ts,syms=>by simp[aag,abm ts]
theorem aa8:∀(ts:List T) (syms:List SyU),∃l,(aag syms ts).1=syms++l/\l.length<=ts.length
 |[],syms=>⟨[],by simp[aag],by simp⟩
 |t::ts,syms=>by
  obtain⟨l,h,hl⟩:=aa8 ts (abU syms t);simp only[aag,h];unfold abU;split
  ·exact⟨l,rfl,by simp;omega⟩
  ·exact⟨(t,[])::l,by simp,by simp;omega⟩
def aac(syms:List SyU)(v:Int):List SyU×List Int:=
 if v<256 then(syms,[]) else
  match syms[(v-256).toNat]? with
  |none=>(syms,[])
  |some (t,as_)=>if as_.length<t.args.length then((aag syms t.args).1.set (v-256).toNat (t,(aag syms t.args).2),(aag syms t.args).2) else(syms,as_)
def afZ(B aM g:Nat)(sv mv vv:Value)(syms:List SyU)(n:Nat)(R:Int->Int)(vars:List Int)(v:Int)(w:World)(e:Ending)(w':World):Prop:=
 ∃r sv',e= .returned r/\IsG B w'.heap.size aM g w' sv' mv vv (aac syms v).1 n R vars/\GStep g sv mv vv w sv' mv vv w'/\ab3 B w'.heap.size w' vv (aac syms v).2 r
theorem amk{w:World}{base:Nat}{e:TypeId}{size g n cap:Nat}{xs:List Value}(h:w.ownsRow base e size (.slice (some ⟨g,0,none⟩) n cap) n xs){j:Nat}(hj:j<n*size)(u:Value):(w.setCell ⟨g,j,none⟩ u).ownsRow base e size (.slice (some ⟨g,0,none⟩) n cap) n (xs.set j u):=by
 obtain⟨h1,h2⟩:=h;refine⟨by simpa using h1,?_⟩
 rcases h2 with⟨h2,_⟩|⟨g',cap',cur,h2,h3,h4,h5,h6,h7,h8⟩
 ·cases h2
 ·cases h2;refine .inr ⟨g,cap,_,rfl,h3,heap_setCell_same h4 u,h5,h6,by simpa using h7,?_⟩;rw[Array.toList_setIfInBounds,List.take_set,h8]
def AgI(B aM g L:Nat)(sv mv vv:Value)(syms:List SyU)(n:Nat)(R:Int->Int)(vars:List Int)(ts:List T)(w2:World)(i:Value)(wr:World):Prop:=
 ∃(k:Nat) (sv':Value) (cur:Array Value),k<=ts.length/\i= .int .i64 k/\IsG B L aM g wr sv' mv vv (aag syms (ts.take k)).1 n R vars/\GStep g sv mv vv w2 sv' mv vv wr/\¬afX g sv' mv vv L/\wr.heap[L]? =some (.cells cur 185 (0,0))/\cur.size=ts.length/\∀(j:Nat) (z:Int),(aag syms (ts.take k)).2[j]? =some z->cur[j]? =some (.int .i64 z)
theorem auW{B aM g L:Nat}{sv sv' sv'' mv vv:Value}{syms:List SyU}{n:Nat}{R:Int->Int}{vars:List Int}{ts:List T}{w2 wr w3:World}{k:Nat}{x:T}{cur:Array Value}(hx:ts[k]? =some x)(hL:w2.heap.size<=L)(hno':¬afX g sv' mv vv L)(hB:B<=L)(hlow:aM<=B)
 (hG:IsG B L aM g wr sv' mv vv (aag syms (ts.take k)).1 n R vars) (hS:GStep g sv mv vv w2 sv' mv vv wr) (hc:wr.heap[L]? =some (.cells cur 185 (0,0))) (hcs:cur.size=ts.length) (hcj:∀(j:Nat) (z:Int),(aag syms (ts.take k)).2[j]? =some z->cur[j]? =some (.int .i64 z))
 (hG3:IsG B L aM g w3 sv'' mv vv (abU (aag syms (ts.take k)).1 x) n R vars) (hS3:GStep g sv' mv vv wr sv'' mv vv w3):
 AgI B aM g L sv mv vv syms n R vars ts w2 (.int .i64 ((k+1:Nat):Int)) (w3.setCell ⟨L,k,none⟩ (.int .i64 (ahn (aag syms (ts.take k)).1 x))):=by
 obtain⟨hk,hks⟩:=ah.1 hx;have hLr:L<wr.heap.size:=(aj.1 hc).1;have hno'':¬afX g sv'' mv vv L:=fun e=>hno' (hS3.own L hLr e);have h3L:w3.heap[L]? =some (.cells cur 185 (0,0)):=(hS3.block L hLr hno').trans hc
 have hst:aag syms (ts.take (k+1))=(abU (aag syms (ts.take k)).1 x,(aag syms (ts.take k)).2++[ahn (aag syms (ts.take k)).1 x]):=by
  rw[aI hk,hks,ahe]
 have hl2:(aag syms (ts.take k)).2.length=k:=by rw[abm,List.length_take];omega
 have hne:∀i,i≠L->(w3.setCell ⟨L,k,none⟩ (.int .i64 (ahn (aag syms (ts.take k)).1 x))).heap[i]? =w3.heap[i]? :=fun i hi=>an _ _ _ _ hi;refine⟨k+1,sv'',_,by omega,rfl,?_,?_,hno'',heap_setCell_same h3L _,by simpa using hcs,?_⟩
 ·rw[hst];refine hG3.keptBut fun i hi=>hne i ?_;rintro rfl
  rcases hi with hi|hi|hi
  ·omega
  ·exact hno'' hi
  ·exact Nat.lt_irrefl _ hi.2.1
 ·have h:=hS.trans hS3;exact⟨h.os,h.tape,h.output,by simpa using h.size,fun i hi hn=>(hne i (by omega)).trans (h.block i hi hn),h.own⟩
 ·rw[hst];intro j z hz;rw[Array.getElem?_setIfInBounds];by_cases e:k=j
  ·subst e;rw[List.getElem?_append_right (by omega),hl2,Nat.sub_self] at hz;simp at hz;rw[if_pos rfl,if_pos (by omega),hz]
  ·rw[if_neg e]
   have hj:j<k:=by
    have:=(ah.1 hz).1;rw[aK,hl2] at this;simp at this;omega
   rw[List.getElem?_append_left (by omega)] at hz;exact hcj j z hz
theorem aox{B aM g L:Nat}{mv vv:Value}{S:List SyU}{n:Nat}{R:Int->Int}{vars:List Int}{wr:World}{i sb cap:Nat}{t:T}{as_ is_:List Int}{cur:Array Value}{xs:List Value}(hG:IsG B L aM g wr (.slice (some ⟨sb,0,none⟩) S.length cap) mv vv S n R vars)(hB:B<=L)(hsi:S[i]? =some (t,as_))(hno:¬afX g (.slice (some ⟨sb,0,none⟩) S.length cap) mv vv L)
 (hc:wr.heap[L]? =some (.cells cur 185 (0,0))) (hcs:cur.size=is_.length) (hcj:∀(j:Nat) (z:Int),is_[j]? =some z->cur[j]? =some (.int .i64 z)) (hlen:is_.length<=1000) (hrow:wr.ownsRow B 221 3 (.slice (some ⟨sb,0,none⟩) S.length cap) S.length xs) (hsy:aaU B L aM wr vv S xs):
 IsG B wr.heap.size aM g (wr.setCell ⟨sb,i*3+2,none⟩ (.slice (some ⟨L,0,none⟩) is_.length is_.length)) (.slice (some ⟨sb,0,none⟩) S.length cap) mv vv (S.set i (t,is_)) n R vars/\
  GStep g (.slice (some ⟨sb,0,none⟩) S.length cap) mv vv wr (.slice (some ⟨sb,0,none⟩) S.length cap) mv vv (wr.setCell ⟨sb,i*3+2,none⟩ (.slice (some ⟨L,0,none⟩) is_.length is_.length))/\
  ab3 B wr.heap.size (wr.setCell ⟨sb,i*3+2,none⟩ (.slice (some ⟨L,0,none⟩) is_.length is_.length)) vv is_ (.slice (some ⟨L,0,none⟩) is_.length is_.length):=by
 have hil:=(ah.1 hsi).1;have hne:∀j,j≠sb->(wr.setCell ⟨sb,i*3+2,none⟩ (.slice (some ⟨L,0,none⟩) is_.length is_.length)).heap[j]? =wr.heap[j]? :=fun j hj=>an _ _ _ _ hj;have hLl:L<wr.heap.size:=(aj.1 hc).1;have hLs:L≠sb:=fun e=>hno (.inr (.inl (by rw[e];rfl)))
 have hnode:∀b,aaW B L wr vv b->(wr.setCell ⟨sb,i*3+2,none⟩ (.slice (some ⟨L,0,none⟩) is_.length is_.length)).heap[b]? =wr.heap[b]? /\vv.ownBlock≠some b:=fun b hb=>
  ⟨hne b (fun e=>hG.node_not hb (.inr (.inl (by rw[e];rfl)))),hb.2.2.1⟩
 have hsb:B<=sb/\sb<wr.heap.size/\∃cur,wr.heap[sb]? =some (.cells cur 221 (0,0)):=rowBlock hrow rfl;have hlo:∀b,b<aM->(wr.setCell ⟨sb,i*3+2,none⟩ (.slice (some ⟨L,0,none⟩) is_.length is_.length)).heap[b]? =wr.heap[b]? :=fun b hb=>hne b (by have:=hG.low;have:=hsb.1;omega)
 have hAR:ab3 B wr.heap.size (wr.setCell ⟨sb,i*3+2,none⟩ (.slice (some ⟨L,0,none⟩) is_.length is_.length)) vv is_ (.slice (some ⟨L,0,none⟩) is_.length is_.length):=by
  refine .inr ⟨L,_,rfl,⟨hB,hLl,fun e=>hno (.inr (.inr (.inr e))),cur,(hne L hLs).trans hc⟩,af _,by unfold maxLen;omega,fun j z hz=> ?_⟩;rw[aq (a:=⟨L,j,none⟩) (hne L hLs)];simp[World.cell?,hc,hcj j z hz]
 have hvb:∀b,vv.ownBlock=some b->b≠sb:=fun b hb e=>by
  subst e;obtain⟨_,_,c1,hc1⟩:=rowBlock hG.vrow hb;obtain⟨_,_,c2,hc2⟩:=hsb;rw[hc1] at hc2;simp at hc2
 have hmb:∀b,Value.mapBlock mv=some b->b≠sb:=fun b hb e=>by
  subst e;obtain⟨_,_,es,cl,hc1⟩:=hG.links.map_block hb;obtain⟨_,_,c2,hc2⟩:=hsb;rw[hc1] at hc2;cases hc2
 refine⟨⟨(hne g (fun e=>hG.sv_ne (by rw[e];rfl))).trans hG.heap,hG.low,hG.base,⟨_,by rw[List.length_set];exact amk hrow (by omega) _,((hsy.keep hlo hnode).mono (by omega)).set hAR hsi⟩,hG.links.kept (fun M hM=>hne M (hmb M hM)),ownsRow_kept hG.vrow (fun b hb=>hne b (hvb b hb))⟩,⟨rfl,rfl,rfl,by simp,fun j hj hn=>hne j (fun e=>hn (.inr (.inl (by rw[e];rfl)))),fun _ _ h=>h⟩,hAR⟩
theorem af0(B aM g:Nat)(sv mv vv:Value)(syms:List SyU)(n:Nat)(R:Int->Int)(vars:List Int)(v:Int)(w:World)(hB:B<=w.heap.size)(hG:IsG B w.heap.size aM g w sv mv vv syms n R vars)(hsl:syms.length<=100000)(h0:0<=v)(hv:v<256+syms.length)(hb8:∀x∈syms,x.1.args.length<=1000):
 Calls Tryz.prog 187 #[.pointer (some ⟨g,0,none⟩),.int .i64 v] w (afZ B aM g sv mv vv syms n R vars v w):=by
 by_cases hneg:v<256
 ·have HP:=ae (show afZ B aM g sv mv vv syms n R vars v w (.returned (.slice none 0 0)) w from⟨_,sv,rfl,by unfold aac;rw[if_pos hneg];exact hG,GStep.refl _ _ _ _ _,by unfold aac;rw[if_pos hneg];exact .inl ⟨rfl,rfl⟩⟩);clear hG hb8;go_enter Tryz.func187,Tryz.ntmps187
  go_wp2_with fail
  refine(aeI v w).mono ?_;rintro e w1 ⟨rfl,rfl⟩;rw[decide_eq_true hneg];go_wp2;go_ret;exact HP.out
 ·obtain⟨i,hi⟩:∃i:Nat,v=256+i:=⟨(v-256).toNat,by omega⟩;subst hi;have hil:i<syms.length:=by omega
  obtain⟨t,as_,hsi⟩:∃t as_,syms[i]? =some (t,as_):=⟨syms[i].1,syms[i].2,ai hil⟩;have htl:t.args.length<=1000:=hb8 (t,as_) (ak hsi)
  have hAO:aac syms (256+i)=if as_.length<t.args.length then((aag syms t.args).1.set i (t,(aag syms t.args).2),(aag syms t.args).2) else(syms,as_):=by
   unfold aac;rw[if_neg hneg,show((256+(i:Int))-256).toNat=i from by omega,hsi]
  obtain⟨xs,hrow,hsy⟩:=id hG.rows;obtain⟨htw,hx0,⟨a,c,hx1,hA⟩,r,hx2,hr⟩:=hsy.get hsi;obtain⟨m,hm⟩:∃m,syms.length=m+1:=⟨syms.length-1,by omega⟩;obtain⟨sb,scap,hsv⟩:=ownsRow_succ (hm▸hrow);rw[←hm] at hsv;subst hsv;have e0:=hrow.cells (g:=sb) rfl _ _ hx0;have e1:=hrow.cells (g:=sb) rfl _ _ hx1;have e2:=hrow.cells (g:=sb) rfl _ _ hx2;rw[aaB] at e0 e1 e2;simp only[Nat.zero_add] at e0 e1 e2;have hgl:=hG.lt;have g0:w.cell? ⟨g,0,none⟩=some (.slice (some ⟨sb,0,none⟩) syms.length scap):=by simp[World.cell?,hG.heap]
  have hsbl:sb<w.heap.size:=(rowBlock hrow rfl).2.1;have hlc:t.args.length<=c/\c<=maxLen:=⟨hA.1,hA.2.1⟩;unfold maxLen at hlc;obtain⟨hlc1,hlc2⟩:=hlc;have HG:=ae hG;have HSI:=ae hsi;have HM:=ae hm;have hi0:(0:Int)<=(i:Int):=aw _;have hi1:(i:Int)<(syms.length:Int):=by omega
  obtain⟨ra,rc,hrv⟩:∃ra rc,r= .slice ra as_.length rc:=by
   rcases hr with⟨rfl,rfl⟩|⟨ab,cap,rfl,_⟩
   ·exact⟨none,0,rfl⟩
   ·exact⟨_,cap,rfl⟩
  subst hrv;have hw1:∀ob,Below w.heap.size w (w.alloc ob):=fun ob=>(ag _ _).alloc (af _) _;have HDEC:=ae (show decide ((256:Int)+i<256)=false from decide_eq_false (by omega));by_cases hmade:as_.length<t.args.length
  ·have hmk:∀W:World,(Instr.makeSlice 181 (.int .i64 (t.args.length:Int)) (.int .i64 (t.args.length:Int))).run Tryz.prog W= .ok (.slice (some ⟨W.heap.size,0,none⟩) t.args.length t.args.length) (W.alloc (.cells (madeCells #[.int .i64 0] t.args.length) 185)):=fun W=>by
    obtain⟨i0,hi,hz0,hz1,hz2⟩:=info_parts ank;exact run_make_row 181 185 i0 _ Tryz.underlying181 hi hz0 hz1 rfl .i64 .i64 t.args.length (by rw[hz2];omega) (by omega) W
   rw[if_pos hmade] at hAO;have HAO:=ae hAO;have HA:=ae hA;have hml:((as_.length:Int)<(t.args.length:Int)):=by omega
   clear hG hb8 hsy hr hx0 hx1 hx2 hAO hsi hm hrow hA hmade;go_enter Tryz.func187,Tryz.ntmps187
   go_wp2_with fail
   refine(aeI _ w).mono ?_;rintro e w1 ⟨rfl,rfl⟩;rw[HDEC.out];go_wp2;obtain⟨w2,hw2⟩:∃w2,(w1.alloc (.cells #[.int .i64 t.head,.slice a t.args.length c,.slice ra as_.length rc] 221)).alloc (.cells (madeCells #[.int .i64 0] t.args.length) 185)=w2:=⟨_,rfl⟩;obtain⟨L,hL⟩:∃L,w1.heap.size+1=L:=⟨_,rfl⟩;have hb2:Below w1.heap.size w1 w2:=by rw[←hw2];exact(hw1 _).alloc (by simp) _
   have hz2:w2.heap.size=L+1:=by rw[←hw2,←hL];simp
   have hL2:w2.heap[L]? =some (.cells (madeCells #[.int .i64 0] t.args.length) 185 (0,0)):=by
    rw[←hw2,←hL];have h:=heap_alloc_new (w1.alloc (.cells #[.int .i64 t.head,.slice a t.args.length c,.slice ra as_.length rc] 221)) (.cells (madeCells #[.int .i64 0] t.args.length) 185);simpa using h
   have s1:w2.cell? ⟨w1.heap.size,1,none⟩=some (.slice a t.args.length c):=by rw[←hw2];simp[go_sem]
   have HG2:=ae ((HG.out.later hb2 hB).mono (show w1.heap.size<=L by omega));have HS2:=ae (show GStep g (.slice (some ⟨sb,0,none⟩) syms.length scap) mv vv w1 (.slice (some ⟨sb,0,none⟩) syms.length scap) mv vv w2 from GStep.later hb2);have HNO:=ae (show ¬afX g (.slice (some ⟨sb,0,none⟩) syms.length scap) mv vv L from fun e=>by have:=HG.out.own_lt e;omega);have HL2:=ae hL2;have HLL:=ae hL;have HZ2:=ae hz2;rw[hw2]
   try rw[hL]
   clear hw2 hL hz2 hL2 hb2 e0 e1 e2 g0;simp only[show(256+(i:Int)-256)=(i:Int) from by omega,show(256+i-256)=i from by omega];have S1:=ae s1;clear s1
   go_loopw [38] (fun j wr=>AgI B aM g L (.slice (some ⟨sb,0,none⟩) syms.length scap) mv vv syms n R vars t.args w1 j wr) (fun j _=>t.args.length-(intOf j).toNat)
   case atStart=>exact⟨0,_,_,Nat.zero_le _,rfl,HG2.out,HS2.out,HNO.out,HL2.out,by simp[madeCells],by simp[aag]⟩
   case round=>
    obtain⟨k,sv',cur,hk,rfl,hG',hS',hno',hc',hcs,hcj⟩:=hrel;have hLw:w1.heap.size<=L:=by have:=HLL.out;omega
    have hBw:Below B w1 wr:=hS'.below hB (fun i hi=>HG.out.own_ge hi);by_cases hlt:k<t.args.length
    ·obtain⟨b,o,x,a',c',rfl,hbn,hx,hxwf,hc1,hc2,hA'⟩:=(HA.out.below (hBw.mono HG.out.low)).elem (i:=k) hlt;obtain⟨l0,hl0,hl0l⟩:=aa8 (t.args.take k) syms;have hlen:(aag syms (t.args.take k)).1.length<=1000000000000:=by rw[hl0,aK];rw[List.length_take] at hl0l;omega
     have hbw:b<wr.heap.size:=by have:=hBw.size;have:=HG.out.low;omega
     have hk0:(0:Int)<=(k:Int):=aw _;have hk1:(k:Int)<(t.args.length:Int):=by omega
     have hb3:Below wr.heap.size wr (wr.alloc (aaa x.head a' x.args.length c')):=(ag _ _).alloc (af _) _;have hBr:B<=wr.heap.size:=aE hB (hS'.size);have CN:=ajQ B L aM g sv' mv vv (aag syms (t.args.take k)).1 n R vars x a' c' (wr.alloc (aaa x.head a' x.args.length c')) (by simp;omega) (hG'.later hb3 hBr) hlen hxwf (hA'.below (hb3.mono (by have:=HG.out.low;omega)));have HCN:=ae CN;have hLr:L<wr.heap.size:=(aj.1 hc').1;have HX:=ae hx;have HALL:=ae (And.intro hG' (And.intro hS' (And.intro hno' (And.intro hc' (And.intro hcs hcj)))));have HS3:=ae (show GStep g sv' mv vv wr sv' mv vv (wr.alloc (aaa x.head a' x.args.length c')) from GStep.later hb3);clear CN hG' hS' hno' hc' hcs hcj hx hA' hxwf hl0 hlen hBw hb3
     go_wp2_with fail
     refine HCN.out.mono ?_;rintro e w3 ⟨rfl,sv'',hG3,hS3⟩;obtain⟨hG',hS',hno',hc',hcs,hcj⟩:=HALL.out;have hS3':=HS3.out.trans hS3;have hst:=auW HX.out hLw hno' (by omega) HG.out.low hG' hS' hc' hcs hcj hG3 hS3';have h3L:w3.heap[L]? =some (.cells cur 185 (0,0)):=(hS3'.block L hLr hno').trans hc'
     obtain⟨q,hq⟩:∃q,w3.cell? ⟨L,k,none⟩=some q:=by
      refine⟨cur[k]'(by omega),?_⟩;simp[World.cell?,h3L,show k<cur.size by omega]
     have hf3:w3.frozen? ⟨L,k,none⟩=false:=by simp[World.frozen?,h3L]
     have HST:=ae hst;generalize ahn (aag syms (t.args.take k)).1 x=z at*;clear hG' hS' hno' hc' hcs hcj hG3 hS3 hS3' hst h3L HALL HS3 HCN;go_wp2
     go_roundw
     case rel=>exact HST.out
     case measure=>simp[intOf];omega
    ·obtain rfl:k=t.args.length:=by omega
     rw[List.take_length] at hG' hcj;obtain⟨l0,hl0,hl0l⟩:=aa8 t.args syms;obtain⟨xs,hrow,hsy⟩:=hG'.rows;have hsi:(aag syms t.args).1[i]? =some (t,as_):=by rw[hl0,List.getElem?_append_left hil];exact HSI.out
     have hSl:syms.length<=(aag syms t.args).1.length:=by rw[hl0,aK];omega
     have hSu:(aag syms t.args).1.length<=200000:=by rw[hl0,aK];omega
     have hisl:(aag syms t.args).2.length=t.args.length:=abm _ _;have hAO:=HAO.out;generalize (aag syms t.args).1=S at*;generalize (aag syms t.args).2=is_ at*;obtain⟨m,hm⟩:∃m,S.length=m+1:=⟨S.length-1,by omega⟩;obtain⟨sb',scap',hsv'⟩:=ownsRow_succ (hm▸hrow);rw[←hm] at hsv';subst hsv';have hst:=aox hG' (by omega) hsi hno' hc' (by rw[hcs,hisl]) hcj (by omega) hrow hsy;obtain⟨_,_,_,r0,hr0,_⟩:=hsy.get hsi;have e2:=hrow.cells (g:=sb') rfl _ _ hr0;rw[aaB,Nat.zero_add] at e2;obtain⟨_,hsbl',cur2,hcur2⟩:=rowBlock hrow rfl;have ef:wr.frozen? ⟨sb',i*3+2,none⟩=false:=by simp[World.frozen?,hcur2]
     have g0:wr.cell? ⟨g,0,none⟩=some (.slice (some ⟨sb',0,none⟩) S.length scap'):=by simp[World.cell?,hG'.heap]
     have hgs:g≠sb':=fun e=>hG'.sv_ne (by rw[e];rfl)
     have hcap':S.length<=scap'/\scap'<=maxLen:=by
      rcases hrow.2 with⟨h,_⟩|⟨g',cap',cu',hv',_,_,h1,h2,_⟩
      ·cases h
      ·simp only[Value.slice.injEq] at hv';obtain⟨_,_,rfl⟩:=hv';exact⟨h1,h2⟩
     unfold maxLen at hcap';obtain⟨hcap1,hcap2⟩:=hcap';rw[hisl] at hst
     have HP:=ae (show afZ B aM g (.slice (some ⟨sb,0,none⟩) syms.length scap) mv vv syms n R vars (256+i) w1 (.returned (.slice (some ⟨L,0,none⟩) t.args.length t.args.length)) (wr.setCell ⟨sb',i*3+2,none⟩ (.slice (some ⟨L,0,none⟩) t.args.length t.args.length)) from
      ⟨_,_,rfl,by rw[hAO];simpa using hst.1,hS'.trans hst.2.1,by rw[hAO];simpa using hst.2.2⟩)
     have hiS:(i:Int)<(S.length:Int):=by omega
     clear hst hG' hS' hno' hc' hcs hcj hsy hsi hrow hr0 hAO hl0 hcur2 hm HAO hBw;go_wp2;go_ret;exact HP.out
  ·rw[if_neg hmade] at hAO
   have HP:=ae (show afZ B aM g (.slice (some ⟨sb,0,none⟩) syms.length scap) mv vv syms n R vars (256+i) w (.returned (.slice ra as_.length rc)) (w.alloc (.cells #[.int .i64 t.head,.slice a t.args.length c,.slice ra as_.length rc] 221)) from
    ⟨_,_,rfl,by rw[hAO];exact(hG.later (hw1 _) hB).mono (by simp),GStep.later (hw1 _),by rw[hAO];exact(hr.keep (fun b hb=>⟨(hw1 _).block b hb.lt,hb.2.2.1⟩)).mono (by simp)⟩)
   clear hG hb8 hsy hr hx0 hx1 hx2 hAO hsi hm hrow hA;have hml:¬((as_.length:Int)<(t.args.length:Int)):=by omega
   go_enter Tryz.func187,Tryz.ntmps187
   go_wp2_with fail
   refine(aeI _ w).mono ?_;rintro e w1 ⟨rfl,rfl⟩;rw[HDEC.out];go_wp2;go_ret;exact HP.out
def abF(s t:T):Bool:=decide (s.head=t.head)&&decide (s.args.length=t.args.length)
theorem aqM(B L aM g:Nat)(sv mv vv:Value)(syms:List SyU)(n:Nat)(R:Int->Int)(vars:List Int)(i j:Nat)(s t:T)(as_ bs:List Int)(w:World)(hB:B<=w.heap.size)(hG:IsG B L aM g w sv mv vv syms n R vars)(hsl:syms.length<=1000000000000)(hsi:syms[i]? =some (s,as_))(htj:syms[j]? =some (t,bs)):
 Calls Tryz.prog 184 #[.pointer (some ⟨g,0,none⟩),.int .i64 (256+(i:Int)),.int .i64 (256+(j:Int))] w fun e w'=>e= .returned (.bool (abF s t))/\Below w.heap.size w w':=by
 have hil:=(ah.1 hsi).1;have hjl:=(ah.1 htj).1;obtain⟨xs,hrow,hsy⟩:=id hG.rows;obtain⟨hsw,hx0,⟨a,c,hx1,hA⟩,_⟩:=hsy.get hsi;obtain⟨htw,hy0,⟨a',c',hy1,hA'⟩,_⟩:=hsy.get htj;obtain⟨m,hm⟩:∃m,syms.length=m+1:=⟨syms.length-1,by omega⟩;obtain⟨sb,scap,hsv⟩:=ownsRow_succ (hm▸hrow);rw[←hm] at hsv;subst hsv;have e0:=hrow.cells (g:=sb) rfl _ _ hx0;have e1:=hrow.cells (g:=sb) rfl _ _ hx1;have f0:=hrow.cells (g:=sb) rfl _ _ hy0;have f1:=hrow.cells (g:=sb) rfl _ _ hy1;rw[aaB,Nat.zero_add] at e0 e1 f0 f1;have hgl:=hG.lt;have g0:w.cell? ⟨g,0,none⟩=some (.slice (some ⟨sb,0,none⟩) syms.length scap):=by simp[World.cell?,hG.heap]
 have hsbl:sb<w.heap.size:=(rowBlock hrow rfl).2.1;have hi0:(0:Int)<=(i:Int):=aw _;have hi1:(i:Int)<(syms.length:Int):=by omega
 have hj0:(0:Int)<=(j:Int):=aw _;have hj1:(j:Int)<(syms.length:Int):=by omega
 have hi2:(256+(i:Int)-256)=(i:Int):=by omega
 have hj2:(256+(j:Int)-256)=(j:Int):=by omega
 have hi3:(256+i-256)=i:=by omega
 have hj3:(256+j-256)=j:=by omega
 clear hG hsy hx0 hx1 hy0 hy1 hsi htj hm hrow hA hA' hsw htw;go_enter Tryz.func184,Tryz.ntmps184;go_wp2
 go_region
 all_goals
  by_cases q1:s.head=t.head
  ·have d1:(s.head==t.head)=true:=by simpa using q1
   have d2:decide (s.head=t.head)=true:=by simpa using q1
   have HD:=ae (show abF s t=decide ((s.args.length:Int)=(t.args.length:Int)) from by unfold abF;rw[d2,Bool.true_and];simp;omega);have HBB:=ae (show ∀o1 o2,Below w.heap.size w ((w.alloc o1).alloc o2).drew from fun o1 o2=>(((ag _ w).alloc (af _) o1).alloc (by simp) o2).drew);clear q1 d2;go_wp2;go_ret;exact⟨by rw[HD.out];rfl,HBB.out _ _⟩
  ·have d1:(s.head==t.head)=false:=by simpa using q1
   have HD:=ae (show abF s t=false from by unfold abF;rw[decide_eq_false q1];rfl);have HBB:=ae (show ∀o1 o2,Below w.heap.size w ((w.alloc o1).alloc o2).drew from fun o1 o2=>(((ag _ w).alloc (af _) o1).alloc (by simp) o2).drew);clear q1;go_wp2;go_ret;exact⟨by rw[HD.out];rfl,HBB.out _ _⟩
theorem IsG.afterBind{B L aM g:Nat}{w w1:World}{sv mv mv' vv:Value}{syms:List SyU}{n:Nat}{R R':Int->Int}{vars:List Int}{n':Nat}(h:IsG B L aM g w sv mv vv syms n R vars)(hB:B<=w.heap.size)
 (h1:w1.heap[g]? =some (.cells #[sv,mv',vv] 183 (0,0))) (h2:ady B w1 mv' n' R') (h3:∀i,i<w.heap.size->i≠g->Value.mapBlock mv≠some i->w1.heap[i]? =w.heap[i]?):IsG B L aM g w1 sv mv' vv syms n' R' vars:=by
 obtain⟨xs,r1,r2⟩:=h.rows
 have hs:∀b,sv.ownBlock=some b->w1.heap[b]? =w.heap[b]? :=fun b hb=>by
  obtain⟨_,hl,cur,hc⟩:=rowBlock r1 hb;refine h3 b hl (fun e=>h.sv_ne (e▸hb)) (fun e=> ?_);obtain⟨_,_,es,cl,hc'⟩:=h.links.map_block e;rw[hc] at hc';cases hc'
 have hv:∀b,vv.ownBlock=some b->w1.heap[b]? =w.heap[b]? :=fun b hb=>by
  obtain⟨_,hl,cur,hc⟩:=rowBlock h.vrow hb;refine h3 b hl (fun e=>h.vv_ne (e▸hb)) (fun e=> ?_);obtain⟨_,_,es,cl,hc'⟩:=h.links.map_block e;rw[hc] at hc';cases hc'
 refine⟨h1,h.low,h.base,⟨xs,ownsRow_kept r1 hs,r2.keep (fun b hb=>h3 b (by have:=h.low;omega) (by have:=h.low;have:=h.base;omega) (fun e=>by have:=(h.links.map_block e).1;have:=h.low;omega)) (fun b hb=>⟨h3 b hb.lt (fun e=>h.node_not hb (.inl e)) (fun e=>h.node_not hb (.inr (.inr (.inl e)))),hb.2.2.1⟩)⟩,h2,ownsRow_kept h.vrow hv⟩
theorem aqN{B L aM g:Nat}{sv mv vv:Value}{syms:List SyU}{n:Nat}{R:Int->Int}{vars:List Int}{x:Int}{w w5:World}{ob:Obj}{g5 cap5:Nat}(hG:IsG B L aM g w sv mv vv syms n R vars)(hL:L<=w.heap.size)(hgrow:(w.alloc ob).grownBy w5 vv.ownBlock)
 (hown5:w5.ownsRow B 185 1 (.slice (some ⟨g5,0,none⟩) (vars.length+1) cap5) (vars.length+1) (vars.map (Value.int .i64)++[.int .i64 x])) (hat:vv.ownBlock=some g5\/g5=w.heap.size+1):
 IsG B L aM g (w5.setCell ⟨g,2,none⟩ (.slice (some ⟨g5,0,none⟩) (vars.length+1) cap5)) sv mv (.slice (some ⟨g5,0,none⟩) (vars.length+1) cap5) syms n R (vars++[x])/\
  GStep g sv mv vv w sv mv (.slice (some ⟨g5,0,none⟩) (vars.length+1) cap5) (w5.setCell ⟨g,2,none⟩ (.slice (some ⟨g5,0,none⟩) (vars.length+1) cap5)):=by
 have hgl:=hG.lt;have hvg:=hG.vv_ne;have hlow:=hG.low;have hsz:w.heap.size+1<=w5.heap.size:=by have:=hgrow.size;simpa using this
 have hk0:∀i,i<w.heap.size->vv.ownBlock≠some i->w5.heap[i]? =w.heap[i]? :=fun i hi hs=>(hgrow.block i (by simp;omega) (fun e=>hs e.symm)).trans (az w ob i hi);have hk:∀i,i<w.heap.size->vv.ownBlock≠some i->i≠g->(w5.setCell ⟨g,2,none⟩ (.slice (some ⟨g5,0,none⟩) (vars.length+1) cap5)).heap[i]? =w.heap[i]? :=fun i hi hs hne=>(an _ _ _ _ hne).trans (hk0 i hi hs)
 have hg5:g5≠g:=fun e=>by
  subst e
  rcases hat with h|h
  ·exact hvg h
  ·omega
 obtain⟨xs,hrow,hsy⟩:=hG.rows
 have hnode:∀b,aaW B L w vv b->(w5.setCell ⟨g,2,none⟩ (.slice (some ⟨g5,0,none⟩) (vars.length+1) cap5)).heap[b]? =w.heap[b]? /\(Value.slice (some ⟨g5,0,none⟩) (vars.length+1) cap5).ownBlock≠some b:=fun b hb=>by
  have:=hG.node_not hb;refine⟨hk b hb.lt hb.2.2.1 (fun e=>this (.inl e)),fun e=> ?_⟩;simp only[Value.ownBlock,aJ] at e;subst e
  rcases hat with h|h
  ·exact hb.2.2.1 h
  ·have:=hb.lt;omega
 have hsb:∀b,sv.ownBlock=some b->vv.ownBlock≠some b:=fun b hs hb=>by
  obtain⟨_,_,cur,hc⟩:=rowBlock hG.vrow hb;obtain⟨_,_,cur',hc'⟩:=rowBlock hrow hs;rw[hc] at hc';simp at hc'
 have hmb:∀b,Value.mapBlock mv=some b->vv.ownBlock≠some b:=fun b hb hs=>by
  obtain⟨_,_,es,cl,hc⟩:=hG.links.map_block hb;obtain⟨_,_,cur',hc'⟩:=rowBlock hG.vrow hs;rw[hc] at hc';cases hc'
 have hlo:∀b,b<aM->(w5.setCell ⟨g,2,none⟩ (.slice (some ⟨g5,0,none⟩) (vars.length+1) cap5)).heap[b]? =w.heap[b]? :=fun b hb=>hk b (by have:=hG.base;omega) (fun e=>by have:=(rowBlock hG.vrow e).1;omega) (by have:=hG.base;omega);refine⟨⟨?_,hG.low,hG.base,⟨xs,ownsRow_kept hrow (fun b hb=>hk b (rowBlock hrow hb).2.1 (hsb b hb) (fun e=>hG.sv_ne (e▸hb))),hsy.keep hlo hnode⟩,?_,?_⟩,⟨hgrow.os,hgrow.tape,hgrow.output,by simp;omega,fun i hi hn=>hk i hi (fun e=>hn (.inr (.inr (.inr e)))) (fun e=>hn (.inl e)),fun i hi e=> ?_⟩⟩
 ·have h5:w5.heap[g]? =some (.cells #[sv,mv,vv] 183 (0,0)):=(hk0 g hgl hvg).trans hG.heap;rw[heap_setCell_same h5];rfl
 ·exact hG.links.kept (fun M hM=>hk M (hG.links.map_block hM).2.1 (hmb M hM) (fun e=>hG.mv_ne (e▸hM)))
 ·have:=abd (b:=g) (o:=2) hown5 (by simpa[Value.ownBlock] using hg5) (.slice (some ⟨g5,0,none⟩) (vars.length+1) cap5);simpa using this
 ·rcases e with e|e|e|e
  ·exact .inl e
  ·exact .inr (.inl e)
  ·exact .inr (.inr (.inl e))
  ·simp only[Value.ownBlock,aJ] at e;subst e
   rcases hat with h|h
   ·exact .inr (.inr (.inr h))
   ·omega
def aqO(B L aM g:Nat)(sv mv vv:Value)(syms:List SyU)(n:Nat)(R:Int->Int)(vars:List Int)(x y:Int)(w:World)(e:Ending)(w':World):Prop:=
 e= .returned (.tuple #[])/\∃mv' vv',IsG B L aM g w' sv mv' vv' syms (n+1) (join R x y) (vars++[x])/\GStep g sv mv vv w sv mv' vv' w'
theorem adf(B L aM g:Nat)(sv mv vv:Value)(syms:List SyU)(n:Nat)(R:Int->Int)(vars:List Int)(x y:Int)(hx:wfi x)(hy:wfi y)(hRx:R x=x)(hRy:R y≠x)(hn:n<=1000000000000)(hvl:vars.length<=1000000000000)(w:World)(hB:B<=w.heap.size)(hL:L<=w.heap.size)(hG:IsG B L aM g w sv mv vv syms n R vars):
 Calls Tryz.prog 183 #[.pointer (some ⟨g,0,none⟩),.int .i64 x,.int .i64 y] w (aqO B L aM g sv mv vv syms n R vars x y w):=by
 have HC:=ae (anj B g n sv mv vv R x y hx hy hRx hRy hn w hB hG.heap hG.links);have HG:=ae hG;have HX:=ae hx;have hkm:vars.length+1<=maxLen:=by unfold maxLen;omega
 obtain⟨i0,hi,hz0,hz1,hz2⟩:=info_parts ank;clear hG hx hy hRx hRy;go_enter Tryz.func183,Tryz.ntmps183
 go_wp2_with fail
 refine HC.out.mono ?_;rintro e w1 ⟨rfl,mv',h1,h2,hS1,h3⟩;have hG1:=HG.out.afterBind hB h1 h2 h3;have hz:=hS1.size;have HG1:=ae hG1;have HS1:=ae hS1;have hgl:=hG1.lt;have g2:w1.cell? ⟨g,2,none⟩=some vv:=by simp[World.cell?,h1]
 have gf:w1.frozen? ⟨g,2,none⟩=false:=by simp[World.frozen?,h1]
 have hrow:=hG1.vrow;have hvg:=hG1.vv_ne;have hB1:B<=w1.heap.size:=by omega
 clear h1 h2 hS1 h3 hG1
 go_wp2_with (first|(at_builtin;refine wpList_append_lies _ (by rfl) _ _ 181 (by rfl) B 185 i0 _ 1 8 Tryz.underlying181 hi hz0 hz1 hz2 rfl (by omega) _ _ (vars.map (Value.int .i64)) (by rfl) (hrow.alloc _) ⟨w1.heap.size,0,none⟩ 1 1 [.int .i64 x] (by rfl) (by rfl) (World.news_of_block (cs:=#[.int .i64 x]) (t:=185) (fr:=(0,0)) (heap_alloc_new w1 _)) (by simp[Value.oneCell']) (by omega) hkm (by omega) (by simp;omega) (w1.heap.size+1) (by simp) ?_;intro g5 cap5 w5 hown5 hgrow5 hat5 hlt5;have ho5:=(cell_grown hgrow5 (p:=⟨g,2,none⟩) (by simp;omega) (fun e=>hvg e.symm)).trans ((aq (a:=⟨g,2,none⟩) (az w1 _ _ hgl)).trans g2);have hf5:=(abW hgrow5 (p:=⟨g,2,none⟩) (by simp;omega) (fun e=>hvg e.symm)).trans ((aaQ (a:=⟨g,2,none⟩) (az w1 _ _ hgl)).trans gf))|go_in)
 have hst:=aqN HG1.out (by omega) hgrow5 hown5 (by simpa using hat5);refine bodyPost_end (v:= .tuple #[]) (by simp[results,Tryz.results183,go_sem]) rfl ?_;exact⟨rfl,mv',_,hst.1,HS1.out.trans hst.2⟩
theorem asD:(Tryz.prog.info? 188).map (fun i=>(i.zero,i.size,i.bytes))=some (some (.agg #[.int .i64 0,.int .i64 0]),2,16):=by kernel_rfl
def aaE(l:List (Int×Int)):List Value:=l.flatMap fun p=>[.int .i64 p.1,.int .i64 p.2]
theorem adg(l:List (Int×Int))(p:Int×Int):aaE (l++[p])=aaE l++[.int .i64 p.1,.int .i64 p.2]:=by simp[aaE]
theorem ahf(l:List (Int×Int)):(aaE l).length=l.length*2:=by
 induction l with
 |nil=>rfl
 |cons p l ih=>simp only[aaE,List.flatMap_cons,aK] at ih ⊢;simp only[List.length_cons,List.length_nil];omega
theorem adA:∀{l:List (Int×Int)} {k:Nat} {p:Int×Int},l[k]? =some p->(aaE l)[k*2]? =some (.int .i64 p.1)/\(aaE l)[k*2+1]? =some (.int .i64 p.2)
 |q::l,0,p,h=>by simp at h;subst h;exact⟨rfl,rfl⟩
 |q::l,k+1,p,h=>by
  have:=adA (l:=l) (k:=k) (p:=p) (by simpa using h);rw[show(k+1)*2=k*2+2 from by omega];exact this
structure aej (v:Value) (w:World) (v':Value) (w':World):Prop where
 os:w'.os=w.os
 tape:w'.tape=w.tape
 output:w'.output=w.output
 size:w.heap.size<=w'.heap.size
 block:∀i,i<w.heap.size->v.ownBlock≠some i->w'.heap[i]? =w.heap[i]?
 own:∀i,i<w.heap.size->v'.ownBlock=some i->v.ownBlock=some i
theorem aej.refl(v:Value)(w:World):aej v w v w:=⟨rfl,rfl,rfl,af _,fun _ _ _=>rfl,fun _ _ h=>h⟩
theorem aej.trans{v v' v'':Value}{w w' w'':World}(h:aej v w v' w')(k:aej v' w' v'' w''):aej v w v'' w'':=
 ⟨k.os.trans h.os,k.tape.trans h.tape,k.output.trans h.output,aE h.size k.size,fun i hi hn=>(k.block i (aF hi h.size) (fun e=>hn (h.own i hi e))).trans (h.block i hi hn),fun i hi e=>h.own i hi (k.own i (aF hi h.size) e)⟩
theorem aej.app{v:Value}{w w5:World}{ob:Obj}{g5 n cap:Nat}(hgrow:(w.drew.alloc ob).grownBy w5 v.ownBlock)(hat:v.ownBlock=some g5\/g5=w.heap.size+1):aej v w (.slice (some ⟨g5,0,none⟩) n cap) w5:=
 ⟨hgrow.os,hgrow.tape,hgrow.output,by have:=hgrow.size;simp at this;omega,fun i hi hn=>(hgrow.block i (by simp;omega) (fun e=>hn e.symm)).trans (az w.drew ob i hi),fun i hi e=>by
  simp only[Value.ownBlock,aJ] at e;subst e
  rcases hat with h|h
  ·exact h
  ·omega⟩
def aff(w:World)(v:Value)(as_:List Int)(a:Option Addr):Prop:=∀(j:Nat) (z:Int),as_[j]? =some z->∃ab,a=some ⟨ab,0,none⟩/\w.cell? ⟨ab,j,none⟩=some (.int .i64 z)/\v.ownBlock≠some ab
theorem aff.step{w w':World}{v v':Value}{as_:List Int}{a:Option Addr}(h:aff w v as_ a)(k:aej v w v' w'):aff w' v' as_ a:=fun j z hz=>by
 obtain⟨ab,h1,h2,h3⟩:=h j z hz;have hl:=World.block_lt_of_cell? w ⟨ab,j,none⟩ h2;exact⟨ab,h1,(aq (a:=⟨ab,j,none⟩) (k.block ab hl h3)).trans h2,fun e=>h3 (k.own ab hl e)⟩
def aw0(as_ bs:List Int)(st:List (Int×Int))(base:Nat)(v:Value)(w:World)(s i:Value)(wr:World):Prop:=
 ∃j:Nat,j<=as_.length/\i= .int .i64 ((j:Int)-1)/\wr.ownsRow base 188 2 s (st++((as_.zip bs).drop j).reverse).length (aaE (st++((as_.zip bs).drop j).reverse))/\aej v w s wr
def asE(as_ bs:List Int)(st:List (Int×Int))(base:Nat)(v:Value)(w:World)(e:Ending)(w':World):Prop:=
 ∃v',e= .returned v'/\w'.ownsRow base 188 2 v' (st++(as_.zip bs).reverse).length (aaE (st++(as_.zip bs).reverse))/\aej v w v' w'
theorem asF{as_ bs:List Int}{j:Nat}{x y:Int}(hx:as_[j]? =some x)(hy:bs[j]? =some y):((as_.zip bs).drop j).reverse=((as_.zip bs).drop (j+1)).reverse++[(x,y)]:=by
 have hz:(as_.zip bs)[j]? =some (x,y):=by rw[List.getElem?_zip_eq_some];exact⟨hx,hy⟩
 obtain⟨hl,he⟩:=ah.1 hz;rw[aD hl,he,List.reverse_cons]
theorem asG(as_ bs:List Int)(hab:as_.length=bs.length)(hal:as_.length<=1000)(a:Option Addr)(c:Nat)(a':Option Addr)(c':Nat)(hc1:as_.length<=c/\c<=maxLen)(hc2:bs.length<=c'/\c'<=maxLen)(st:List (Int×Int))(hst:st.length<=100000)(base:Nat)(v:Value)(w:World)(hbase:base<=w.heap.size)
 (hown:w.ownsRow base 188 2 v st.length (aaE st)) (hA:aff w v as_ a) (hA':aff w v bs a'):
 Calls Tryz.prog 186 #[v,.slice a as_.length c,.slice a' bs.length c'] w (asE as_ bs st base v w):=by
 obtain⟨i0,hi,hz0,hz1,hz2⟩:=info_parts asD;have HA:=ae hA;have HA':=ae hA';have HO:=ae hown;unfold maxLen at hc1 hc2;obtain⟨hc1,hc1'⟩:=hc1;obtain⟨hc2,hc2'⟩:=hc2;have HAB:=ae hab;rw[←hab] at hc2 ⊢;clear hA hA' hown hab;go_enter Tryz.func186,Tryz.ntmps186;go_wp2
 go_loopw [0,7] (fun s i wr=>aw0 as_ bs st base v w s i wr) (fun _ i _=>(intOf i+1).toNat)
 case atStart=>exact⟨as_.length,af _,rfl,by rw[List.drop_of_length_le (by rw[List.length_zip];omega)];simpa using HO.out,aej.refl _ _⟩
 case round=>
  obtain⟨j,hj,rfl,hrow,hS⟩:=hrel;have HROW:=ae hrow;have HS:=ae hS;have hbz:=hS.size;clear hrow hS;by_cases hlt:j=0
  ·subst hlt;have hrow:=HROW.out;rw[List.drop_zero] at hrow;have HR2:=ae hrow;clear hrow;go_wp2;go_ret;exact⟨_,rfl,HR2.out,HS.out⟩
  ·obtain⟨k,rfl⟩:∃k,j=k+1:=⟨j-1,by omega⟩;have hka:k<as_.length:=by omega
   have hkb:k<bs.length:=by rw[←HAB.out];omega
   obtain⟨x,hx⟩:∃x,as_[k]? =some x:=⟨_,ai hka⟩;obtain⟨y,hy⟩:∃y,bs[k]? =some y:=⟨_,ai hkb⟩;have hn1:=HA.out.step HS.out;have hn2:=HA'.out.step HS.out;obtain⟨ab,rfl,hcx,_⟩:=hn1 k x hx;obtain⟨ab',rfl,hcy,_⟩:=hn2 k y hy;have hzd:=asF hx hy;have hk0:(0:Int)<=(k:Int):=aw _;have hk1:(k:Int)<(as_.length:Int):=by omega
   have habl:=World.block_lt_of_cell? wr ⟨ab,k,none⟩ hcx;have habl':=World.block_lt_of_cell? wr ⟨ab',k,none⟩ hcy
   have hll:(st++((as_.zip bs).drop (k+1)).reverse).length<=200000:=by
    simp only[aK,List.length_reverse,List.length_drop,List.length_zip];omega
   have HZD:=ae hzd;obtain⟨st',hst'⟩:∃st',st++((as_.zip bs).drop (k+1)).reverse=st':=⟨_,rfl⟩;have hrow:=HROW.out;rw[hst'] at hrow hll;have HST:=ae hst';have hkm:st'.length+1<=maxLen:=by unfold maxLen;omega
   have hbw:base<=wr.heap.size:=by omega
   clear hn1 hn2 hx hy hzd hst';have hki:(((k+1:Nat):Int)-1)=(k:Int):=by omega
   rw[hki];go_wp2
   go_region_law (refine step_append_lies _ (by rfl) _ _ _ (by rfl) base 188 i0 _ 2 16 Tryz.underlying214 hi hz0 hz1 hz2 rfl (by omega) u0 st'.length (aaE st') (by rfl) ((show wr.drew.ownsRow base 188 2 u0 st'.length (aaE st') from hrow).alloc _) ⟨wr.heap.size,0,none⟩ 1 1 [.int .i64 x,.int .i64 y] (by rfl) (by rfl) (World.news_of_block (cs:=#[.int .i64 x,.int .i64 y]) (t:=188) (fr:=(0,0)) (heap_alloc_new wr.drew _)) (by simp[Value.oneCell']) (by omega) hkm (by omega) (by simp;omega) (wr.heap.size+1) (by simp) ?_;intro g5 cap5 w5 hown5 hgrow5 hat5 hlt5)
   all_goals
    go_wp2
    go_roundw
    case rel=>
     refine⟨k,by omega,by go_num,?_,HS.out.trans (aej.app hgrow5 (by simpa using hat5))⟩;rw[HZD.out,←List.append_assoc,HST.out,adg,aK];exact hown5
    case measure=>simp[intOf]
end Go.Proofs.YtabfapijgfjflaaGreat
