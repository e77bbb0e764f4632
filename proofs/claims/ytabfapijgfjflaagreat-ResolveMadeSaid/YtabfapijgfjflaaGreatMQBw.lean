import Derived.Test.YtabfapijgfjflaaGreatMQBp
import Derived.Test.YtabfapijgfjflaaGreatMQBd
import Derived.Test.YtabfapijgfjflaaGreatMQBc
import Derived.Test.YtabfapijgfjflaaGreatMQBq
import Derived.Test.YtabfapijgfjflaaGreatMQBo
import Derived.Test.YtabfapijgfjflaaGreatMQBh
import Derived.Test.YtabfapijgfjflaaGreatMQBm
import Derived.Test.YtabfapijgfjflaaGreatMQBv
import Derived.Test.YtabfapijgfjflaaGreatMQBb
import Derived.Laws.MakeOwn
import Derived.BigQuiet
import Derived.Deep.QuietTactic
import Derived.Lib.QuietBelow
import Derived.Test.YtabfapijgfjflaaGreatMAl
set_option linter.unusedVariables false
set_option linter.unusedSimpArgs false
set_option maxRecDepth 100000
set_option maxHeartbeats 8000000
namespace Go.Proofs.YtabfapijgfjflaaGreat
open Go.RowKit
theorem adW{w w':World}{row:Option Nat}(h:Below w.heap.size w w'):w.grownBy w' row:=⟨h.os,h.tape,h.output,h.size,fun k hk _=>h.block k hk⟩
theorem ama{n B:Nat}{a b:World}(h:a.grownBy b (some B))(hn:n<=B)(ha:n<=a.heap.size):Below n a b:=⟨h.os,h.tape,h.output,h.size,fun q hq=>h.block q (by omega) (by simp;omega)⟩
theorem acM{B b o:Nat}{w w':World}(h:w.grownBy w' (some B))(hb:b<w.heap.size)(hne:b≠B):w'.cell? ⟨b,o,none⟩=w.cell? ⟨b,o,none⟩:=aq (a:=⟨b,o,none⟩) (h.block b hb (by simpa using hne))
theorem aeD{ps:List T}{k:Nat}{p:T}(h:ps[k]? =some p):T.sizes (ps.take k)+p.size<=T.sizes ps:=by
 have h3:=T.sizes_append (ps.take k) (ps.drop k);rw[List.take_append_drop] at h3;obtain⟨hk,e⟩:=ah.1 h;have h4:ps.drop k=p::ps.drop (k+1):=by rw[aD hk,e]
 rw[h4,T.sizes] at h3;omega
theorem ajy(t:T)(ht:t.size<=1000000000000)(aM:Nat)(a:Option Addr)(c:Nat)(w:World)(hn:aM<=w.heap.size)(hwf:(Lit.int .i64 t.head).wf=true)(hA:aab aM w t.args a c):
 Calls Tryz.prog 84 #[tm t.head a t.args.length c] w fun e w'=>e= .returned (.bool (decide (t.check≠0)))/\Below w.heap.size w w':=by
 have hb:Below w.heap.size w (w.alloc (aaa t.head a t.args.length c)):=(ag _ _).alloc (af _) _;have CC:=ae (aca t ht aM a c (w.alloc (aaa t.head a t.args.length c)) (by simp;omega) hwf (hA.below (hb.mono hn)));have HB:=ae hb;clear hb hA;go_enter Tryz.func84,Tryz.ntmps84
 go_wp2_with fail
 refine CC.out.mono ?_;rintro e w2 ⟨rfl,hb2⟩;have HB2:=ae (HB.out.trans (hb2.mono (by simp)));clear hb2;cases hd:decide (t.check≠0)
 ·have hz:t.check=0:=by simpa using hd
  have HZ:=ae hz;rw[hz];have HD:=ae (show decide (t.check≠0)=false from hd);clear hd hz;go_wp2;go_ret;refine⟨?_,HB2.out⟩
  first|(rw[HD.out];rfl)|(simp[HZ.out])
 ·have hz:(t.check==0)=false:=by simpa using hd
  obtain⟨k,hk⟩:∃k,t.check=k:=⟨_,rfl⟩;rw[hk] at hz ⊢;have HD:=ae (show decide (t.check≠0)=true from by rw[hk];rw[hk] at hd;exact hd);clear hd hk;go_wp2;go_ret;refine⟨?_,HB2.out⟩;have h2:(k != 0)=true:=by simp[bne,hz]
  have h3:t.check≠0:=of_decide_eq_true HD.out;simp[h3,hz]
  try exact h2
  try simpa using h2
abbrev avV:Value:= .func (.func 84) #[] #[]
theorem aof(ts:List T)(hts:∀t∈ts,t.size<=1000000000000)(aM:Nat)(a:Option Addr)(c:Nat)(w:World)(hn:aM<=w.heap.size)(hA:aab aM w ts a c):
 Calls Tryz.prog 131 #[.slice a ts.length c,avV] w fun e w'=>∃j:Int,e= .returned (.int .i64 j)/\decide (0<=j)=abv ts/\Below w.heap.size w w':=by
 have hlc:ts.length<=c/\c<=maxLen:=⟨hA.1,hA.2.1⟩;unfold maxLen at hlc;obtain⟨hl1,hl2⟩:=hlc;have HA:=ae hA;have HT:=ae hts;clear hA hts;go_enter Tryz.func131,Tryz.ntmps131;go_wp2
 go_loopw [8] (fun i wr=>aw6 ts w i wr) (fun i _=>ts.length-(intOf i).toNat)
 case atStart=>exact⟨0,Nat.zero_le _,rfl,by simp,ag _ _⟩
 case round=>
  obtain⟨k,hk,rfl,hbd,hB⟩:=hrel;have HBD:=ae hbd;have HB:=ae hB;have hbz:=hB.size;clear hbd hB;by_cases hlt:k<ts.length
  ·obtain⟨b,o,s,a',c',rfl,hbn,hs,hswf,hc1,hc2,hA'⟩:=(HA.out.below (HB.out.mono hn)).elem (i:=k) hlt;have hk0:(0:Int)<=(k:Int):=aw _;have hk1:(k:Int)<(ts.length:Int):=by omega
   have hbw:b<wr.heap.size:=by omega
   have CN:=ae (ajy s (HT.out s (ak hs)) aM a' c' wr (by omega) hswf hA')
   have hst:abv (ts.drop k)=(decide (s.check≠0)||abv (ts.drop (k+1))):=by
    obtain⟨hkl,hke⟩:=ah.1 hs;rw[aD hkl,hke];rfl
   have HSTEP:=ae hst;clear hs hswf hA' hst
   go_wp2_with fail
   refine CN.out.mono ?_;rintro e w2 ⟨rfl,hb2⟩;have HB2:=ae (HB.out.trans (hb2.mono hbz));clear hb2;cases hd:decide (s.check≠0)
   ·have H0:=ae (show abv (ts.drop k)=abv (ts.drop (k+1)) from by rw[HSTEP.out,hd];rfl);clear hd;go_wp2
    go_roundw
    case rel=>exact⟨k+1,by omega,by go_num,HBD.out.trans H0.out,HB2.out⟩
    case measure=>simp[intOf];omega
   ·have H0:=ae (show abv ts=true from by rw[HBD.out,HSTEP.out,hd];rfl);clear hd;go_wp2;go_ret;exact⟨(k:Int),rfl,by rw[H0.out];simp,HB2.out⟩
  ·obtain rfl:k=ts.length:=by omega
   have H0:=ae (show abv ts=false from by rw[HBD.out,List.drop_of_length_le (af _)];rfl);go_wp2;go_ret;exact⟨-1,rfl,by rw[H0.out];rfl,HB.out⟩
theorem ajz(ts:List T)(hts:∀t∈ts,t.size<=1000000000000)(aM:Nat)(a:Option Addr)(c:Nat)(w:World)(hn:aM<=w.heap.size)(hA:aab aM w ts a c):
 Calls Tryz.prog 83 #[.slice a ts.length c,avV] w fun e w'=>e= .returned (.bool (abv ts))/\Below w.heap.size w w':=by
 have CI:=ae (aof ts hts aM a c w hn hA);clear hA hts;go_enter Tryz.func83,Tryz.ntmps83
 go_wp2_with fail
 refine CI.out.mono ?_;rintro e w2 ⟨j,rfl,hj,hb⟩;have HJ:=ae hj;have HB:=ae hb;clear hj hb;go_wp2;go_ret;exact⟨by rw[←HJ.out];rfl,HB.out⟩
theorem aog{ts:List T}(h:abv ts=false):∀t∈ts,t.check=0:=by
 intro t ht;unfold abv at h;rw[List.any_eq_false] at h;simpa using h t ht
open Go.Maps
theorem aum(w:World):(zeroValue 3).run Tryz.prog w= .ok (.int .i64 0) w:=by kernel_rfl
def alj(W:World)(M n:Nat)(f:Int->Option Value):Prop:=
 ∃D:DataW Value,W.ownsMap Tryz.prog 3 acq M n D/\Maps.size D=n/\∀v,wfi v->Maps.has D (.int .i64 v)=(f v).isSome/\∀u,f v=some u->∀z,D.atKey (.int .i64 v) z= .held u
theorem alj.lt{W:World}{M n:Nat}{f:Int->Option Value}(h:alj W M n f):M<W.heap.size:=by
 obtain⟨D,h1,_⟩:=h;exact h1.lt
theorem alj.kept{W W':World}{M n:Nat}{f:Int->Option Value}(h:alj W M n f)(hb:W'.heap[M]? =W.heap[M]?):alj W' M n f:=by
 obtain⟨D,⟨es,clock,hm,r⟩,h2⟩:=h;exact⟨D,⟨es,clock,hb.trans hm,r⟩,h2⟩
theorem alj.made(w:World):alj (w.alloc (.map #[] 0)) w.heap.size 0 (fun _=>none):=
 ⟨.map [],World.ownsMap_made w Tryz.prog 3 acq,rfl,fun v _=>⟨rfl,by simp⟩⟩
theorem alj.look{W:World}{M n:Nat}{f:Int->Option Value}(h:alj W M n f){t e:TypeId}(ht:Tryz.prog.underlying t=some (.map 3 e)){z:Value}(hz:(zeroValue e).run Tryz.prog W= .ok z W){v:Int}(hv:wfi v):
 (Instr.lookup t (.map (some M)) (.int .i64 v) true).run Tryz.prog W= .ok (.tuple #[(f v).getD z,.bool (f v).isSome]) W:=by
 obtain⟨D,h1,_,h3⟩:=h;have hkey:=keyOf_int_mk (P:=Tryz.prog) (k:=3) Tryz.underlying3 hv.wf;obtain⟨q1,q2⟩:=h3 v hv;obtain⟨u,ps,hrun,hu⟩:=h1.look_ok ah5 ht hz (zd:= .held z) (zp:=[]) rfl hkey;rw[hrun,q1];cases hf:f v with
 |none=>
  rw[Maps.atKey_of_not_has (by rw[q1,hf];rfl)] at hu;simp only[acq,aJ,Prod.mk.injEq,DataW.held.injEq] at hu;rw[hu.1];rfl
 |some x=>
  rw[q2 x hf] at hu;simp only[acq,aJ,Prod.mk.injEq,DataW.held.injEq] at hu;rw[hu.1];rfl
theorem alj.len{W:World}{M n:Nat}{f:Int->Option Value}(h:alj W M n f){t e:TypeId}(ht:Tryz.prog.underlying t=some (.map 3 e))(ty:TypeId):(Builtin.len_ #[t] ty #[.map (some M)]).run Tryz.prog W= .ok (.int .i64 n) W:=by
 obtain⟨D,h1,h2,_⟩:=h;rw[h1.len ht,h2]
theorem alj.put{W:World}{M n:Nat}{f:Int->Option Value}(h:alj W M n f){t e:TypeId}(ht:Tryz.prog.underlying t=some (.map 3 e)){v:Int}(hv:wfi v)(u:Value)(hn:n<=1000000000000):
 ∃w',(Instr.mapUpdate t (.map (some M)) (.int .i64 v) u).run Tryz.prog W= .ok () w'/\alj w' M (if(f v).isSome then n else n+1) (upd f v u)/\W.grownBy w' (some M):=by
 obtain⟨D,h1,h2,h3⟩:=h;have hkey:=keyOf_int_mk (P:=Tryz.prog) (k:=3) Tryz.underlying3 hv.wf;obtain⟨w',hrun,r1,r2⟩:=h1.update ah5 ht (by unfold maxLen;omega) hkey (val:=u) (d:= .held u) (ps:=[]) rfl;have hM:=h1.isMap;have hs:Maps.size (D.put (.int .i64 v) (.held u))=if(f v).isSome then n else n+1:=by rw[Maps.size_put (h1.tidy ah5),(h3 v hv).1,h2]
 have r3:=acY r1;rw[hs] at r3;refine⟨w',hrun,⟨_,r3,hs,fun x hx=> ?_⟩,r2⟩;by_cases e:x=v
 ·subst e;refine⟨by rw[Maps.has_put_same hM (show WideAt.IsKeyLit (.int .i64 x) from trivial)];simp[upd],fun y hy z=> ?_⟩;simp only[upd,if_pos,aJ] at hy;rw[←hy];exact Maps.atKey_put_same (k:= .int .i64 x) hM (show WideAt.IsKeyLit (.int .i64 x) from trivial) _ z
 ·have hne:Lit.int .i64 x≠Lit.int .i64 v:=by intro e';injection e' with _ e';exact e e'
  refine⟨by rw[Maps.has_put_other hne,(h3 x hx).1];simp[upd,e],fun y hy z=> ?_⟩;simp only[upd,if_neg e] at hy;rw[Maps.atKey_put_other hne];exact(h3 x hx).2 y hy z
def atg(N:List Int)(v:Int):Option Value:=if N.contains v then some (.int .i64 (ix N v)) else none
theorem ap2{N:List Int}{v:Int}(h:v∉N):atg (N++[v])=upd (atg N) v (.int .i64 (N.length:Nat)):=by
 funext u
 unfold atg upd;by_cases e:u=v
 ·subst e;rw[if_pos rfl,if_pos (by simp),atd h]
 ·rw[if_neg e];show(if(N++[v]).contains u=true then some (Value.int .i64 (ix (N++[v]) u)) else none)=if N.contains u=true then some (Value.int .i64 (ix N u)) else none
  by_cases hu:u∈N
  ·rw[if_pos (by simp[hu]),if_pos (by simpa using hu),avF hu]
  ·rw[if_neg (by simp[hu,e]),if_neg (by simpa using hu)]
def amb(W:World)(Bp Bm:Nat)(N:List Int):Prop:=W.cell? ⟨Bp,0,none⟩=some (.map (some Bm))/\alj W Bm N.length (atg N)/\Bp≠Bm
theorem amb.kept{W W':World}{Bp Bm:Nat}{N:List Int}(h:amb W Bp Bm N)(h1:W'.heap[Bp]? =W.heap[Bp]?)(h2:W'.heap[Bm]? =W.heap[Bm]?):amb W' Bp Bm N:=
 ⟨(aq (a:=⟨Bp,0,none⟩) h1).trans h.1,h.2.1.kept h2,h.2.2⟩
theorem amb.lt{W:World}{Bp Bm:Nat}{N:List Int}(h:amb W Bp Bm N):Bp<W.heap.size/\Bm<W.heap.size:=⟨World.block_lt_of_cell? W ⟨Bp,0,none⟩ h.1,h.2.1.lt⟩
theorem amb.below{W W':World}{Bp Bm:Nat}{N:List Int}(h:amb W Bp Bm N)(hb:Below W.heap.size W W'):amb W' Bp Bm N:=h.kept (hb.block _ h.lt.1) (hb.block _ h.lt.2)
def ap4(Bp Bm:Nat)(N:List Int)(v:Int)(w:World)(e:Ending)(w':World):Prop:=e= .returned (.int .i64 (ix (aat N v) v))/\amb w' Bp Bm (aat N v)/\w.grownBy w' (some Bm)
theorem aoh(N:List Int)(hN:N.length<=1000000000000)(v:Int)(hv:wfi v)(Bp Bm:Nat)(w:World)(hR:amb w Bp Bm N):
 Calls Tryz.prog 132 #[.int .i64 v,.pointer (some ⟨Bp,0,none⟩)] w (ap4 Bp Bm N v w):=by
 have hlk:=hR.2.1.look Tryz.underlying168 (aum w) hv;have hln:=hR.2.1.len Tryz.underlying168;have hlt:=hR.lt;have HR:=ae hR;have hc:=hR.1;by_cases hin:v∈N
 ·have hnf:atg N v=some (.int .i64 (ix N v)):=by unfold atg;rw[if_pos (by simpa using hin)]
  have hdd:aat N v=N:=by unfold aat;rw[if_pos (by simpa using hin)]
  rw[hnf] at hlk;simp only[Option.getD_some,Option.isSome_some] at hlk;clear hR hnf hin;go_enter Tryz.func132,Tryz.ntmps132;go_wp2;go_ret;unfold ap4;rw[hdd];exact⟨rfl,HR.out,adW (ag _ _)⟩
 ·have hnf:atg N v=none:=by unfold atg;rw[if_neg (by simpa using hin)]
  have hdd:aat N v=N++[v]:=by unfold aat;rw[if_neg (by simpa using hin)]
  obtain⟨w',hpt,hM,hg⟩:=hR.2.1.put Tryz.underlying168 hv (.int .i64 (N.length:Nat)) hN;rw[hnf] at hlk hM;simp only[Option.getD_none,Option.isSome_none] at hlk;have HIN:=ae hin;have HM:=ae hM;have HG:=ae hg;clear hR hnf hin hM hg;go_enter Tryz.func132,Tryz.ntmps132;go_wp2;go_ret;unfold ap4;rw[hdd,atd HIN.out];refine⟨rfl,⟨?_,?_,HR.out.2.2⟩,HG.out⟩
  ·exact(acM HG.out hlt.1 HR.out.2.2).trans hc
  ·have:=HM.out;simp only[Option.isSome_none,Bool.false_eq_true,if_false] at this;rw[ap2 HIN.out];simpa using this
end Go.Proofs.YtabfapijgfjflaaGreat
namespace Go.Proofs.YtabfapijgfjflaaGreat
open Go.RowKit
abbrev fvN(Bp:Nat):Value:= .func (.func 132) #[] #[.pointer (some ⟨Bp,0,none⟩)]
structure NlI (aM Bp Bm:Nat) (ts:List T) (N:List Int) (w w3:World) (g k:Nat) (vs os sp:List Value) (cur:Array Value) (wr:World):Prop where
 blk:wr.heap[g]? =some (.cells cur 60 (0,0))
 cells:cur.toList=vs++(os++sp)
 new:aal (fun b=>w.heap.size+1<=b/\b<wr.heap.size/\b≠g) wr (T.nrms (ts.take k) N).1 vs
 old:aal (· <aM) wr (ts.drop k) os
 num:amb wr Bp Bm (T.nrms (ts.take k) N).2
 size:w3.heap.size<=wr.heap.size
 keep:∀b,b<w3.heap.size->b≠g->b≠Bm->wr.heap[b]? =w3.heap[b]?
 env:wr.os=w3.os/\wr.tape=w3.tape/\wr.output=w3.output
def NlX(aM Bp Bm:Nat)(ts:List T)(N:List Int)(w w3:World)(g:Nat)(i:Value)(wr:World):Prop:=∃(k:Nat) (vs os sp:List Value) (cur:Array Value),k<=ts.length/\i= .int .i64 k/\NlI aM Bp Bm ts N w w3 g k vs os sp cur wr
theorem ap5{aM Bp Bm:Nat}{ts:List T}{N:List Int}{w w3 wr w5 w6:World}{g k:Nat}{h0 s0:Value}{vs os sp:List Value}{cur cur':Array Value}{x s:T}{a:Option Addr}{c:Nat}{ob:Obj}(hn:aM<=Bm)(hBm:Bm<w.heap.size)(hBp:Bp<w.heap.size)(hgw:w.heap.size+1<=g)(I:NlI aM Bp Bm ts N w w3 g k vs (h0::s0::os) sp cur wr)(hk:ts[k]? =some s)(hz:w.heap.size+1<=wr.heap.size)
 (hx:(s.nrm (T.nrms (ts.take k) N).2).1=x) (hxw:(Lit.int .i64 x.head).wf=true) (hg5:(wr.alloc ob).grownBy w5 (some Bm)) (hN:amb w5 Bp Bm (s.nrm (T.nrms (ts.take k) N).2).2)
 (hA:aaj (fun b=>(wr.alloc ob).heap.size<=b/\b<w5.heap.size) w5 x.args a c) (h6g:w6.heap[g]? =some (.cells cur' 60 (0,0))) (h6c:cur'.toList=(vs++[.int .i64 x.head,.slice a x.args.length c])++(os++sp))
 (h6o:∀b,b≠g->w6.heap[b]? =w5.heap[b]?) (h6s:w6.heap.size=w5.heap.size) (h6e:w6.os=w5.os/\w6.tape=w5.tape/\w6.output=w5.output):
 NlI aM Bp Bm ts N w w3 g (k+1) (vs++[.int .i64 x.head,.slice a x.args.length c]) os sp cur' w6:=by
 have hgl:g<wr.heap.size:=(aj.1 I.blk).1;have hz5:=hg5.size;rw[aah] at hz5;have h5:∀b,b<wr.heap.size->b≠Bm->w5.heap[b]? =wr.heap[b]? :=fun b hb hne=>(hg5.block b (by simp;omega) (by simpa using hne)).trans (az _ _ _ hb);refine⟨h6g,h6c,?_,?_,?_,?_,?_,?_⟩
 ·rw[T.nrms_take hk,hx];refine aal.snoc hxw (hA.keep (fun b hb=>h6o b (by have:=hb.1;rw[aah] at this;omega)) (fun b hb=> ?_)) (I.new.keep (fun b hb=>(h6o b hb.2.2).trans (h5 b hb.2.1 (by have:=hb.1;omega))) (fun b hb=>⟨hb.1,by have:=hb.2.1;omega,hb.2.2⟩));have h1:=hb.1;have h2:=hb.2;rw[aah] at h1;exact⟨by omega,by omega,by omega⟩
 ·have i4:=I.old;rw[aD (ah.1 hk).1] at i4;exact aal.keep (fun b hb=>(h6o b (by omega)).trans (h5 b (by omega) (by omega))) (fun b hb=>hb) i4.2.2.2
 ·rw[T.nrms_take hk];have hl:=I.num.lt;exact hN.kept (h6o _ (by omega)) (h6o _ (by omega))
 ·have:=I.size;omega
 ·intro b hb h1 h2;exact(h6o b h1).trans ((h5 b (by have:=I.size;omega) h2).trans (I.keep b hb h1 h2))
 ·obtain⟨e1,e2,e3⟩:=I.env;refine⟨h6e.1.trans (hg5.os.trans ?_),h6e.2.1.trans (hg5.tape.trans ?_),h6e.2.2.trans (hg5.output.trans ?_)⟩
  ·exact e1
  ·exact e2
  ·exact e3
def avW(Bp Bm:Nat)(r:List T×List Int)(w:World)(e:Ending)(w':World):Prop:=
 ∃a2 c2,e= .returned (.slice a2 r.1.length c2)/\aaj (fun b=>w.heap.size<=b/\b<w'.heap.size) w' r.1 a2 c2/\amb w' Bp Bm r.2/\w.grownBy w' (some Bm)
def ajA(Bp Bm S:Nat):Prop:=∀(ts:List T),T.sizes ts<=S->T.sizes ts<=100000->(∀t∈ts,bad (T.subs 1 t)=false)->∀(N:List Int),N.length+T.sizes ts<=500000->∀(aM:Nat) (a:Option Addr) (c:Nat) (w:World),aM<=Bm->amb w Bp Bm N->aab aM w ts a c->
    Calls Tryz.prog 86 #[.agg #[fvN Bp],.slice a ts.length c] w (avW Bp Bm (T.nrms ts N) w)
theorem aoi(Bp Bm S:Nat)(ih:∀S',S'<S->ajA Bp Bm S'):ajA Bp Bm S:=by
 intro ts hS hbig hgd N hNl aM a c w hn hR hA;have IH:=ae ih;have HGD:=ae hgd;have HR:=ae hR;obtain⟨hBp,hBm⟩:=hR.lt;have hlz:=T.sizes_ge_length ts;have hlc:ts.length<=c/\c<=maxLen:=⟨hA.1,hA.2.1⟩;unfold maxLen at hlc;obtain⟨hl1,hl2⟩:=hlc;have hb1:Below w.heap.size w (w.alloc (.cells #[fvN Bp] 128)):=(ag _ w).alloc (af _) _;have CL:=ae (agu ts (by omega) aM a c (w.alloc (.cells #[fvN Bp] 128)) (by simp;omega) (hA.below (hb1.mono (by omega))));have HB1:=ae hb1;clear ih hgd hR hA hb1;go_enter Tryz.func86,Tryz.ntmps86
 go_wp2_with fail
 refine CL.out.mono ?_;rintro e w3 ⟨a2,c2,rfl,⟨hn1,hn2,hnr⟩,hb3⟩;rw[aah] at hb3 hnr;have hbx:w3.cell? ⟨w.heap.size,0,none⟩=some (fvN Bp):=(hb3.cell (p:=⟨w.heap.size,0,none⟩) (by simp)).trans (by simp[go_sem]);have hB3:Below w.heap.size w w3:=HB1.out.trans (hb3.mono (by omega));have hz3:w.heap.size+1<=w3.heap.size:=by have:=hb3.size;simpa using this
 have HR3:=ae (HR.out.below hB3);have HB3:=ae hB3;clear hb3 hB3
 rcases hnr with hnil|⟨g,cur,rfl,hg,hgb,hgs,hrow⟩
 ·subst hnil;clear hn1;go_wp2
  go_loopw [6,7,12] (fun _ _ i wr=>i= .int .i64 0/\wr=w3) (fun _ _ _ _=>0)
  case atStart=>exact⟨rfl,rfl⟩
  case round=>
   obtain⟨rfl,rfl⟩:=hrel;go_wp2;go_ret;exact⟨a2,c2,rfl,⟨by simp[T.nrms],hn2,.inl rfl⟩,HR3.out,adW HB3.out⟩
 ·obtain⟨os,hos,hoc,_⟩:=aeO ts 0 ((aaF _).2 hrow);obtain⟨sp,hsp⟩:=aku hgb hoc;have HST:=ae (show NlX aM Bp Bm ts N w w3 g (.int .i64 ((0:Nat):Int)) w3 from⟨0,[],os,sp,cur,Nat.zero_le _,rfl,hgb,hsp,by simp[T.nrms,aal],hos,HR3.out,af _,fun _ _ _ _=>rfl,rfl,rfl,rfl⟩);have HBX:=ae hbx;clear hos hoc hsp hgb hrow CL hgs hbx;unfold maxLen at hn2;go_wp2
  go_loopw [6,7,12] (fun _ _ i wr=>NlX aM Bp Bm ts N w w3 g i wr) (fun _ _ i _=>ts.length-(intOf i).toNat)
  case atStart=>exact HST.out
  case round=>
   obtain⟨k,vs,os,sp,cur,hk,rfl,hI⟩:=hrel;have HI:=ae hI;have hzw:=hI.size;have hgw:g<wr.heap.size:=(aj.1 hI.blk).1;have hbx:wr.cell? ⟨w.heap.size,0,none⟩=some (fvN Bp):=(aq (a:=⟨w.heap.size,0,none⟩) (hI.keep w.heap.size (by omega) (by omega) (by omega))).trans HBX.out;have hvl:=hI.new.length;rw[T.nrms_length,List.length_take,Nat.min_eq_left hk] at hvl;by_cases hlt:k<ts.length
   ·obtain⟨s,hs⟩:∃s,ts[k]? =some s:=⟨_,ai hlt⟩;have hold:=hI.old;rw[aD hlt,(ah.1 hs).2] at hold
    obtain⟨os',a',c',rfl,hsw,hA'⟩:∃os' a' c',os= .int .i64 s.head:: .slice a' s.args.length c'::os'/\(Lit.int .i64 s.head).wf=true/\aab aM wr s.args a' c':=by
     match os,hold with
     |h0::s0::os',⟨q1,q2,⟨a',c',q3,q4⟩,_⟩=>exact⟨os',a',c',by rw[q2,q3],q1,aao.1 q4⟩
    have g0:wr.cell? ⟨g,k*2,none⟩=some (.int .i64 s.head):=abj hI.blk hI.cells (by rw[List.getElem?_append_right (by omega),show k*2-vs.length=0 from by omega];rfl);have g1:wr.cell? ⟨g,k*2+1,none⟩=some (.slice a' s.args.length c'):=abj hI.blk hI.cells (by rw[List.getElem?_append_right (by omega),show k*2+1-vs.length=1 from by omega];rfl);have f0:wr.frozen? ⟨g,k*2,none⟩=false:=by simp[World.frozen?,hI.blk]
    have f1:wr.frozen? ⟨g,k*2+1,none⟩=false:=by simp[World.frozen?,hI.blk]
    have hk0:(0:Int)<=(k:Int):=aw _;have hk1:(k:Int)<(ts.length:Int):=by omega
    have hsg:=HGD.out s (ak hs);have hsl:=aeD hs;have hNk:=T.nrms_len (ts.take k) N;obtain⟨Nk,hNk'⟩:∃Nk,(T.nrms (ts.take k) N).2=Nk:=⟨_,rfl⟩;have hnum:=hI.num;rw[hNk'] at hnum hNk;have NKL:=ae (show Nk.length<=500000 from by omega);have hB4:Below wr.heap.size wr (wr.alloc (.cells #[.int .i64 s.head,.slice a' s.args.length c'] 60)):=(ag _ _).alloc (af _) _;have HS:=ae hs;have HNK:=ae hNk';have hz4:(wr.alloc (.cells #[.int .i64 s.head,.slice a' s.args.length c'] 60)).heap.size=wr.heap.size+1:=by simp
    have hcb:=(hB4.cell (p:=⟨w.heap.size,0,none⟩) (by simp;omega)).trans hbx;have d0:(wr.alloc (.cells #[.int .i64 s.head,.slice a' s.args.length c'] 60)).cell? ⟨wr.heap.size,0,none⟩=some (.int .i64 s.head):=by simp[go_sem]
    have d1:(wr.alloc (.cells #[.int .i64 s.head,.slice a' s.args.length c'] 60)).cell? ⟨wr.heap.size,1,none⟩=some (.slice a' s.args.length c'):=by simp[go_sem]
    have hblk4:=(hB4.block g hgw).trans hI.blk;have hcells:=hI.cells;by_cases q:s.head<0
    ·have hw:=ahI hsw;have CN:=ae (aoh Nk (by omega) (-1-s.head) ⟨by omega,by omega⟩ Bp Bm (wr.alloc (.cells #[.int .i64 s.head,.slice a' s.args.length c'] 60)) (hnum.below hB4));have HB4:=ae hB4;have hnrm:=T.nrm_neg (N:=Nk) q;have HNRM:=ae hnrm;clear hI hold hA' HST hs hsl hNk hnum hsw hB4 hnrm
     go_wp2_with fail
     refine CN.out.mono ?_;rintro e w5 ⟨rfl,hR5,hg5⟩;have hz5:=hg5.size;rw[hz4] at hz5;have hg5l:g<w5.heap.size:=by omega
     have hblk5:=(hg5.block g (by omega) (by simp;omega)).trans hblk4;have k0:=(acM (o:=k*2) hg5 (by omega) (by omega)).trans ((HB4.out.cell (p:=⟨g,k*2,none⟩) hgw).trans g0);have k1:=(acM (o:=k*2+1) hg5 (by omega) (by omega)).trans ((HB4.out.cell (p:=⟨g,k*2+1,none⟩) hgw).trans g1);have j0:w5.frozen? ⟨g,k*2,none⟩=false:=by simp[World.frozen?,hblk5]
     have j1:w5.frozen? ⟨g,k*2+1,none⟩=false:=by simp[World.frozen?,hblk5]
     obtain⟨i,hix⟩:∃i,ix (aat Nk (-1-s.head)) (-1-s.head)=i:=⟨_,rfl⟩
     have hib:0<=i/\i<=1000000000000:=by
      rw[←hix];unfold ix;have h1:(aat Nk (-1-s.head)).idxOf (-1-s.head)<=(aat Nk (-1-s.head)).length:=List.idxOf_le_length;have h2:(aat Nk (-1-s.head)).length<=Nk.length+1:=by unfold aat;split<;>simp
      have h3:=NKL.out;omega
     rw[hix];have HIX:=ae hix;have HR5:=ae hR5;have HG5:=ae hg5;have HBK:=ae hblk5;clear hix hR5 hg5 hblk4 hblk5 g0 g1 d0 d1 f0 f1 CN hz4 hcb;go_wp2
     go_roundw
     case rel=>
      have hx:(s.nrm (T.nrms (ts.take k) N).2).1= .node (-1-i) []:=by rw[HNK.out,HNRM.out,HIX.out]
      have hN2:(s.nrm (T.nrms (ts.take k) N).2).2=aat Nk (-1-s.head):=by rw[HNK.out,HNRM.out]
      have h:=ap5 (ob:= .cells #[.int .i64 s.head,.slice a' s.args.length c'] 60) (w6:=(w5.setCell ⟨g,k*2,none⟩ (.int .i64 (-1-i))).setCell ⟨g,k*2+1,none⟩ (.slice none 0 0)) (cur':=(cur.setIfInBounds (k*2) (.int .i64 (-1-i))).setIfInBounds (k*2+1) (.slice none 0 0)) (a:=none) (c:=0) hn hBm hBp hg HI.out HS.out (by omega) hx (WalkArith.wf_i64 ⟨by simp[T.head];omega,by simp[T.head];omega⟩) HG5.out (by rw[hN2];exact HR5.out) ⟨by simp[T.args],by simp[maxLen],.inl rfl⟩
       (by rw[heap_setCell_same (heap_setCell_same HBK.out _)])
       (by
        rw[Array.toList_setIfInBounds,Array.toList_setIfInBounds,hcells];rw[List.set_append_right _ _ (by omega),show k*2-vs.length=0 from by omega];simp only[List.cons_append,List.set_cons_zero];rw[List.set_append_right _ _ (by omega),show k*2+1-vs.length=1 from by omega];simp[T.head,T.args])
       (fun b hb=>(an _ _ _ _ hb).trans (an _ _ _ _ hb)) (by simp) ⟨rfl,rfl,rfl⟩
      exact⟨k+1,_,_,_,_,by omega,by go_num,h⟩
     case measure=>simp[intOf];omega
    ·have hse:=T.size_eq s;have CN:=ae (IH.out (T.sizes s.args) (by omega) s.args (af _) (by omega) (fun u hu=>by obtain⟨j,hj⟩:=au hu;exact aaA hsg hj) Nk (by omega) aM a' c' (wr.alloc (.cells #[.int .i64 s.head,.slice a' s.args.length c'] 60)) hn (hnum.below hB4) (hA'.below (hB4.mono (by omega))));have HB4:=ae hB4;have hnrm:=T.nrm_pos (N:=Nk) q;have HNRM:=ae hnrm;have HSW:=ae hsw;have hlA:s.args.length<=c'/\c'<=maxLen:=⟨hA'.1,hA'.2.1⟩;clear hI hold hA' HST hs hsl hNk hnum hsw hB4 hnrm hse
     go_wp2_with fail
     refine CN.out.mono ?_;rintro e w5 ⟨a5,c5,rfl,hI5,hR5,hg5⟩;have hz5:=hg5.size;rw[hz4] at hz5;have hg5l:g<w5.heap.size:=by omega
     have hblk5:=(hg5.block g (by omega) (by simp;omega)).trans hblk4;have k0:=(acM (o:=k*2) hg5 (by omega) (by omega)).trans ((HB4.out.cell (p:=⟨g,k*2,none⟩) hgw).trans g0);have k1:=(acM (o:=k*2+1) hg5 (by omega) (by omega)).trans ((HB4.out.cell (p:=⟨g,k*2+1,none⟩) hgw).trans g1);have j1:w5.frozen? ⟨g,k*2+1,none⟩=false:=by simp[World.frozen?,hblk5]
     have hnl:=T.nrms_length s.args Nk;obtain⟨us,hus⟩:∃us,(T.nrms s.args Nk).1=us:=⟨_,rfl⟩;rw[hus] at hI5 hnl ⊢;have HUS:=ae hus;have HI5:=ae hI5;have HR5:=ae hR5;have HG5:=ae hg5;have HBK:=ae hblk5;have HNL:=ae hnl
     have hkk:k*2<cur.size:=by
      have:=congrArg List.length hcells;simp at this;omega
     clear hus hI5 hR5 hg5 hblk4 hblk5 g0 g1 d0 d1 f0 f1 CN hz4 hcb hnl;go_wp2
     go_roundw
     case rel=>
      have hx:(s.nrm (T.nrms (ts.take k) N).2).1= .node s.head us:=by rw[HNK.out,HNRM.out,HUS.out]
      have hN2:(s.nrm (T.nrms (ts.take k) N).2).2=(T.nrms s.args Nk).2:=by rw[HNK.out,HNRM.out]
      have h:=ap5 (ob:= .cells #[.int .i64 s.head,.slice a' s.args.length c'] 60) (w6:=w5.setCell ⟨g,k*2+1,none⟩ (.slice a5 us.length c5)) (cur':=cur.setIfInBounds (k*2+1) (.slice a5 us.length c5)) (a:=a5) (c:=c5) hn hBm hBp hg HI.out HS.out (by omega) hx HSW.out HG5.out (by rw[hN2];exact HR5.out) HI5.out
       (by rw[heap_setCell_same HBK.out])
       (by
        rw[Array.toList_setIfInBounds,hcells];rw[List.set_append_right _ _ (by omega),show k*2+1-vs.length=1 from by omega];simp[T.head,T.args])
       (fun b hb=>an _ _ _ _ hb) (by simp) ⟨rfl,rfl,rfl⟩
      exact⟨k+1,_,_,_,_,by omega,by go_num,h⟩
     case measure=>simp[intOf];omega
   ·obtain rfl:k=ts.length:=by omega
    have hnew:=hI.new;have hnum:=hI.num;rw[List.take_length] at hnew hnum
    have hrow:aav (fun b=>w.heap.size<=b/\b<wr.heap.size) wr (T.nrms ts N).1 g 0:=aal.isRowp (hnew.keep (fun _ _=>rfl) (fun b hb=>⟨by have:=hb.1;omega,hb.2.1⟩)) (fun j u hj=>by
     rw[Nat.zero_add];exact abj hI.blk hI.cells (by rw[List.getElem?_append_left (ah.1 hj).1];exact hj))
    have HROW:=ae hrow;have HNUM:=ae hnum;have hkeep:w.grownBy wr (some Bm):=⟨hI.env.1.trans HB3.out.os,hI.env.2.1.trans HB3.out.tape,hI.env.2.2.trans HB3.out.output,by omega,fun b hb hne=>(hI.keep b (by omega) (by omega) (by simpa using hne)).trans (HB3.out.block b hb)⟩;have HKP:=ae hkeep;clear hI hnew hnum hrow hvl HST hkeep;go_wp2;go_ret;refine⟨some ⟨g,0,none⟩,c2,by rw[T.nrms_length];rfl,⟨by rw[T.nrms_length];exact hn1,by unfold maxLen;exact hn2,.inr ⟨g,0,rfl,⟨by omega,hgw⟩,HROW.out⟩⟩,HNUM.out,HKP.out⟩
theorem ap6(Bp Bm:Nat):∀S,ajA Bp Bm S:=by
 intro S
 induction S using Nat.strongRecOn with
 |ind S ih=>exact aoi Bp Bm S ih
theorem amc(w:World):(Instr.makeMap 168 none).run Tryz.prog w= .ok (.map (some w.heap.size)) (w.alloc (.map #[] 0)):=by
 simp[Instr.makeMap,run_underlying Tryz.underlying168,asInt,asIntOf,Result.andThen]
theorem ap7(w:World):Calls Tryz.prog 85 #[] w fun e w'=>e= .returned (fvN (w.heap.size+1))/\amb w' (w.heap.size+1) w.heap.size []/\Below w.heap.size w w':=by
 have hmm:=amc;go_enter Tryz.func85,Tryz.ntmps85;go_wp2;go_ret;refine⟨rfl,⟨by simp[go_sem],?_,by omega⟩,((ag _ w).alloc (af _) _).alloc (by simp) _⟩;have h:=(alj.made w).kept (W':=(w.alloc (.map #[] 0)).alloc (.cells #[.map (some w.heap.size)] 168)) (az _ _ _ (by simp));exact h
def ap8(ts:List T)(w:World)(e:Ending)(w':World):Prop:=
 ((abv ts=true/\e= .returned (.tuple #[.slice none 0 0,.int .i64 1]))\/(abv ts=false/\∃a c,e= .returned (.tuple #[.slice a (T.nrms ts []).1.length c,.int .i64 0])/\aaj (fun b=>w.heap.size<=b/\b<w'.heap.size) w' (T.nrms ts []).1 a c))/\Below w.heap.size w w'
theorem ap9(ts:List T)(hts:T.sizes ts<=100000)(aM:Nat)(a:Option Addr)(c:Nat)(w:World)(hn:aM<=w.heap.size)(hA:aab aM w ts a c):
 Calls Tryz.prog 46 #[.slice a ts.length c] w (ap8 ts w):=by
 have HTS:=ae (show ∀t∈ts,t.size<=1000000000000 from fun t ht=>by obtain⟨i,hi⟩:=au ht;have:=aeD hi;omega);have HA:=ae hA;clear hA;go_enter Tryz.func46,Tryz.ntmps46
 go_wp2_with fail
 refine(ajz ts HTS.out aM a c w hn HA.out).mono ?_;rintro e w1 ⟨rfl,hb⟩;have HB1:=ae hb;clear hb;cases q1:abv ts
 case true=>
  have Q1:=ae q1;clear q1;go_wp2;refine bodyPost_ret (v:= .tuple #[.slice none 0 0,.int .i64 1]) (by simp[results,Tryz.results46,go_sem]) rfl ?_;exact⟨.inl ⟨Q1.out,rfl⟩,HB1.out⟩
 have Q1:=ae q1;clear q1
 go_wp2_with fail
 refine(ap7 w1).mono ?_;rintro e w2 ⟨rfl,hR,hb⟩;have HB2:=ae (HB1.out.trans (hb.mono HB1.out.size));have hz1:=HB1.out.size;have CL:=ae (ap6 (w1.heap.size+1) w1.heap.size _ ts (af _) hts (fun t ht=>(aam (aog Q1.out t ht)).2.2) [] (by simp;omega) aM a c w2 (by omega) hR (HA.out.below (HB2.out.mono hn)));clear hb hR
 go_wp2_with fail
 refine CL.out.mono ?_;rintro e w3 ⟨a3,c3,rfl,hI,hR,hg⟩;have hwB:Below w.heap.size w2 w3:=ama hg (by omega) HB2.out.size;have HI:=ae (hI.keep (ok':=fun b=>w.heap.size<=b/\b<w3.heap.size) (fun _ _=>rfl) (fun b hb=>⟨aE HB2.out.size hb.1,hb.2⟩));have HF:=ae (HB2.out.trans hwB);clear hI hR hg hwB;go_wp2;refine bodyPost_ret (v:= .tuple #[.slice a3 (T.nrms ts []).1.length c3,.int .i64 0]) (by simp[results,Tryz.results46,go_sem]) rfl ?_;exact⟨.inr ⟨Q1.out,a3,c3,rfl,HI.out⟩,HF.out⟩
def avX(P:List LV)(w:World)(e:Ending)(w':World):Prop:=∃v,e= .returned v/\OA w.heap.size v (aad (t3s P)) w'/\Below w.heap.size w w'
theorem aqa(P:List LV)(hl:P.length<=1000000)(aM:Nat)(a:Option Addr)(c:Nat)(w:World)(hn:aM<=w.heap.size)(hP:aaV aM w P a c):
 Calls Tryz.prog 47 #[.slice a P.length c] w (avX P w):=by
 have hlc:P.length<=c/\c<=maxLen:=⟨hP.1,hP.2.1⟩;unfold maxLen at hlc;obtain⟨hl1,hl2⟩:=hlc;have HP:=ae (hP.mono hn);clear hP
 have hmk:∀W:World,(Instr.makeSlice 58 (.int .i64 0) (.int .i64 (2*(P.length:Int)))).run Tryz.prog W= .ok (.slice (some ⟨W.heap.size,0,none⟩) 0 (2*P.length)) (W.alloc (.cells (madeCells #[.int .i64 0,.slice none 0 0] (2*P.length*2)) 60)):=fun W=>by
  obtain⟨i0,hi,hz0,hz1,hz2⟩:=info_parts acX;have h:=run_make (P:=Tryz.prog) W 58 60 i0 _ Tryz.underlying58 hi hz0 .i64 .i64 0 (2*(P.length:Int)) (by omega) (by omega) (by rw[hz2];omega) (by omega);rw[h,hz1,show(2*(P.length:Int)).toNat=2*P.length from by omega];rfl
 go_enter Tryz.func47,Tryz.ntmps47;go_wp2;have hown0:(w.alloc (.cells (madeCells #[.int .i64 0,.slice none 0 0] (2*P.length*2)) 60)).ownsRow w.heap.size 60 2 (.slice (some ⟨w.heap.size,0,none⟩) 0 (2*P.length)) 0 []:=World.ownsRow_made w _ _ (af _) (by unfold maxLen;omega) (size_madeCells _ _);have HO0:=ae (show OA w.heap.size (.slice (some ⟨w.heap.size,0,none⟩) 0 (2*P.length)) [] (w.alloc (.cells (madeCells #[.int .i64 0,.slice none 0 0] (2*P.length*2)) 60)) from⟨[],hown0,trivial⟩);have HB0:=ae (show Below w.heap.size w (w.alloc (.cells (madeCells #[.int .i64 0,.slice none 0 0] (2*P.length*2)) 60)) from(ag _ _).alloc (af _) _);generalize w.alloc (.cells (madeCells #[.int .i64 0,.slice none 0 0] (2*P.length*2)) 60)=w1 at HO0 HB0 ⊢;clear hmk hown0
 go_loopw [3,12] (fun ov i wr=>awS P w ov i wr) (fun _ i _=>P.length-(intOf i).toNat)
 case atStart=>exact⟨0,Nat.zero_le _,rfl,HO0.out,HB0.out⟩
 case round=>
  obtain⟨k,hk,rfl,hO,hB⟩:=hrel;have HO:=ae hO;have HB:=ae hB;have hbz:=hB.size;clear hO hB HO0 HB0;by_cases hlt:k<P.length
  ·obtain⟨b,o,x,rfl,hb,hx,⟨a0,a1,a2,a3,a4⟩,hxl⟩:=(HP.out.below HB.out).elem (i:=k) hlt;have HX:=ae (And.intro hx hxl);have hk0:(0:Int)<=(k:Int):=aw _;have hk1:(k:Int)<(P.length:Int):=by omega
   have hbw:b<wr.heap.size:=by omega
   obtain⟨W2,hW2⟩:∃W2,wr.alloc x.obj=W2:=⟨_,rfl⟩;have hs2:W2.heap.size=wr.heap.size+1:=by rw[←hW2];simp
   have hF2:Below wr.heap.size wr W2:=by rw[←hW2];exact(ag _ wr).alloc (af _) _
   obtain⟨l0,l1,l2,l3,l4⟩:=(show aai (Lc wr.heap.size x) W2 from by rw[←hW2];exact abS wr x).now;have hO2:OA w.heap.size u3 (aad (t3s (P.take k))) (W2.alloc (.cells #[.int .i64 x.l.head,.slice x.pa x.l.args.length x.ca,.int .i64 x.r.head,.slice x.pb x.r.args.length x.cb] 60)):=HO.out.later hbz (hF2.alloc (by omega) _);have hB2:Below w.heap.size w (W2.alloc (.cells #[.int .i64 x.l.head,.slice x.pa x.l.args.length x.ca,.int .i64 x.r.head,.slice x.pb x.r.args.length x.cb] 60)):=HB.out.trans ((hF2.alloc (by omega) _).mono hbz);have HO2:=ae hO2;have HB2:=ae hB2;have HF8:=ae (show Below w.heap.size wr (W2.alloc (.cells #[.int .i64 x.l.head,.slice x.pa x.l.args.length x.ca,.int .i64 x.r.head,.slice x.pb x.r.args.length x.cb] 60)) from(hF2.alloc (by omega) _).mono hbz);clear hx hxl hO2 hB2 hF2
   go_wp2_with (at_builtin;refine aaG ?_)
   refine ae ?_;have hxl:=HX.out.2;have hnb:=heap_alloc_new W2 (.cells #[.int .i64 x.l.head,.slice x.pa x.l.args.length x.ca,.int .i64 x.r.head,.slice x.pb x.r.args.length x.cb] 60);rw[hs2] at hnb;have hxb:=hxl.below HF8.out
   have hsrc:Src w.heap.size (W2.alloc (.cells #[.int .i64 x.l.head,.slice x.pa x.l.args.length x.ca,.int .i64 x.r.head,.slice x.pb x.r.args.length x.cb] 60)) [x.l,x.r] (some ⟨wr.heap.size+1,0,none⟩) 2:=
    Src.of_two hxl.lw hxl.rw hxb.la hxb.ra (wr.heap.size+1) (by simp[World.cell?,hnb]) (by simp[World.cell?,hnb]) (by simp[World.cell?,hnb]) (by simp[World.cell?,hnb])
   refine aaJ rfl _ _ rfl w.heap.size u3 (aad (t3s (P.take k))) rfl HO2.out (by simp;omega) [x.l,x.r] (some ⟨wr.heap.size+1,0,none⟩) 2 rfl hsrc (by rw[ab8];simp;omega) ?_;intro v' w8 hO8 hg8 hv8;have HO8:=ae (show OA w.heap.size v' (aad (t3s (P.take (k+1)))) w8 from by rw[ad9 HX.out.1];exact hO8);have HB8:=ae (HB2.out.trans ((ag w.heap.size _).grown hg8 (by simp;omega) (fun q hq=>(HO2.out.block hq).1)));clear hO8 hg8 hv8 hsrc hnb hxb hxl;go_wp2
   go_roundw
   case rel=>exact⟨k+1,by omega,by go_num,HO8.out,HB8.out⟩
   case measure=>simp[intOf];omega
  ·obtain rfl:k=P.length:=by omega
   have hO:=HO.out;rw[List.take_length] at hO;have HR:=ae hO;clear hO;go_wp2;go_ret;exact⟨_,rfl,HR.out,HB.out⟩
theorem acN(g:Sg)(P:List LV)(hsz:∀x∈P,x.sz)(aM:Nat)(ga:Option Addr)(gc:Nat)(a:Option Addr)(c:Nat)(w:World)(hn:aM<=w.heap.size)(hG:aaX aM w g ga gc)(hP:aaV aM w P a c):
 Calls Tryz.prog 21 #[.slice ga g.length gc,.slice a P.length c] w fun e w'=>e= .returned (.int .i64 (aaN g (t3s P)))/\Below w.heap.size w w':=by
 have hlc:P.length<=c/\c<=maxLen:=⟨hP.1,hP.2.1⟩;unfold maxLen at hlc;obtain⟨hl1,hl2⟩:=hlc;have HSZ:=ae hsz;have HP:=ae (hP.mono hn);have HG:=ae (hG.mono hn);clear hP hG hsz;go_enter Tryz.func21,Tryz.ntmps21
 go_wp2_with fail
 refine(af7 g w.heap.size ga gc w (af _) HG.out).mono ?_;rintro e w2 ⟨rfl,hb⟩;have HB2:=ae hb;have hbz2:=hb.size;clear hb;by_cases hr:aan g=true
 case neg=>
  have HE:=ae (show aaN g (t3s P)=1 from by unfold aaN;rw[if_neg hr]);rw[show ahr g=1 from by unfold ahr;rw[if_neg hr]];clear hr;go_wp2;go_ret;exact⟨by rw[HE.out];rfl,HB2.out⟩
 have HR:=ae hr;rw[show ahr g=0 from by unfold ahr;rw[if_pos hr]];clear hr;by_cases hl:32<P.length
 ·have HE:=ae (show aaN g (t3s P)=2 from by unfold aaN;rw[if_pos HR.out,if_pos (by simpa using hl)]);have hl':32<(P.length:Int):=by omega
  go_wp2;go_ret;exact⟨by rw[HE.out];rfl,HB2.out⟩
 have HE:=ae (show aaN g (t3s P)=api g (t3s P) from by unfold aaN;rw[if_pos HR.out,if_neg (by simpa using hl)]);have hl':decide (32<(P.length:Int))=false:=decide_eq_false (by omega);go_wp2
 go_loopw [19] (fun i wr=>avU g P w i wr) (fun i _=>P.length-(intOf i).toNat)
 case atStart=>exact⟨0,Nat.zero_le _,rfl,rfl,HB2.out⟩
 case round=>
  obtain⟨k,hk,rfl,he,hB⟩:=hrel;have HB:=ae hB;have hbz:=hB.size;have HED:=ae he;clear hB he;by_cases hlt:k<P.length
  ·obtain⟨b,o,x,rfl,hb,hx,⟨a0,a1,a2,a3,a4⟩,hxl⟩:=(HP.out.below HB.out).elem (i:=k) hlt;have hsx:=HSZ.out x (ak hx);have hbw:b<wr.heap.size:=by omega
   obtain⟨W2,hW2⟩:∃W2,wr.alloc x.obj=W2:=⟨_,rfl⟩;have hs2:W2.heap.size=wr.heap.size+1:=by rw[←hW2];simp
   have hF2:Below wr.heap.size wr W2:=by rw[←hW2];exact(ag _ wr).alloc (af _) _
   obtain⟨l0,l1,l2,l3,l4⟩:=(show aai (Lc wr.heap.size x) W2 from by rw[←hW2];exact abS wr x).now;have CK:=ae (adt g x hsx w.heap.size ga gc W2 (by omega) (HG.out.below (HB.out.trans (hF2.mono hbz))) (hxl.below (hF2.mono hbz)));have HX:=ae (HED.out.trans (akN hx));have HF2:=ae (HB.out.trans (hF2.mono hbz));have hk0:(0:Int)<=(k:Int):=aw _;have hk1:(k:Int)<(P.length:Int):=by omega
   clear hx hxl hF2
   go_wp2_with fail
   refine CK.out.mono ?_;rintro e w3 ⟨rfl,hb3⟩;have HB3:=ae (HF2.out.trans (hb3.mono HF2.out.size));clear hb3 a0 a1 a2 a3 a4;by_cases h:abn g x.l x.r=0
   ·have H:=ae h;rw[h];clear h;go_wp2
    go_roundw
    case rel=>exact⟨k+1,by omega,by go_num,by rw[HX.out,if_neg (fun e=>e H.out)],HB3.out⟩
    case measure=>simp[intOf];omega
   ·have HF:=ae (show aaN g (t3s P)=abn g x.l x.r from by rw[HE.out,HX.out,if_pos h]);obtain⟨m,hm⟩:∃m,abn g x.l x.r=m:=⟨_,rfl⟩;rw[hm] at h HF ⊢;have h2:(m != 0)=true:=by simpa using h
    clear h hm;go_wp2;go_ret;exact⟨by rw[HF.out];rfl,HB3.out⟩
  ·obtain rfl:k=P.length:=by omega
   have HF:=ae (show aaN g (t3s P)=0 from by rw[HE.out,HED.out,List.drop_of_length_le (af _)];rfl);go_wp2;go_ret;exact⟨by rw[HF.out];rfl,HB.out⟩
theorem ag4(P:List LV)(i:Int)(a:Option Addr)(c:Nat)(w:World)(h1:P.length<=c)(h2:c<=maxLen):
 Calls Tryz.prog 103 #[.slice a P.length c,.int .i64 i] w fun e w'=>e= .returned (.bool (aid (t3s P) i))/\Below w.heap.size w w':=by
 unfold maxLen at h2;have HE:=ae (show aid (t3s P) i=(decide (0<=i)&&decide (i<(P.length:Int))) from by simp[aid]);go_enter Tryz.func103,Tryz.ntmps103;by_cases h:(0:Int)<=i
 ·by_cases h3:i<(P.length:Int)
  ·have HR:=ae (show aid (t3s P) i=true from by rw[HE.out];simp[h,h3]);go_wp2;go_ret;exact⟨by rw[HR.out];rfl,ag _ _⟩
  ·have HR:=ae (show aid (t3s P) i=false from by rw[HE.out];simp[h3]);have h3':decide (i<(P.length:Int))=false:=decide_eq_false h3;clear h3;go_wp2;go_ret;exact⟨by rw[HR.out];rfl,ag _ _⟩
 ·have HR:=ae (show aid (t3s P) i=false from by rw[HE.out];simp[h]);have h':decide ((0:Int)<=i)=false:=decide_eq_false h;clear h;go_wp2;go_ret;exact⟨by rw[HR.out];rfl,ag _ _⟩
def MxI(g:Sg)(C:List Lt3)(i:Nat)(st:Bool)(w:World)(v:Value)(wr:World):Prop:=∃k:Nat,k<=C.length/\v= .int .i64 k/\(∀j<k,okX g C i st j=true)/\Below w.heap.size w wr
theorem ajB{g:Sg}{C:List Lt3}{i k:Nat}{st:Bool}(h:∀j<k,okX g C i st j=true)(hk:okX g C i st k=true):∀j<k+1,okX g C i st j=true:=fun j hj=>by
 by_cases e:j=k
 ·subst e;exact hk
 ·exact h j (by omega)
theorem ag5(g:Sg)(P:List LV)(hsz:∀x∈P,x.sz)(hok:aaN g (t3s P)=0)(i:Nat)(hi:i<P.length)(st:Bool)(aM:Nat)(ga:Option Addr)(gc:Nat)(a:Option Addr)(c:Nat)(w:World)(hn:aM<=w.heap.size)(hG:aaX aM w g ga gc)(hP:aaV aM w P a c):
 Calls Tryz.prog 106 #[.slice ga g.length gc,.slice a P.length c,.int .i64 i,.bool st] w fun e w'=>e= .returned (.bool (ali g (t3s P) i st))/\Below w.heap.size w w':=by
 have hlc:P.length<=c/\c<=maxLen:=⟨hP.1,hP.2.1⟩;unfold maxLen at hlc;obtain⟨hl1,hl2⟩:=hlc;have HSZ:=ae hsz;have HOK:=ae (show ∀x∈P,abn g x.l x.r=0 from fun x hx=>(aba hok).2.2 x.t3 (List.mem_map.2 ⟨x,hx,rfl⟩));have HP:=ae (hP.mono hn);have HG:=ae (hG.mono hn);have HL:=ae (show(t3s P).length=P.length from by simp);have hi0:(0:Int)<=(i:Int):=aw _;have hi1:(i:Int)<(P.length:Int):=by omega
 clear hP hG hsz hok;go_enter Tryz.func106,Tryz.ntmps106;go_wp2
 go_loopw [15] (fun v wr=>MxI g (t3s P) i st w v wr) (fun v _=>P.length-(intOf v).toNat)
 case atStart=>exact⟨0,Nat.zero_le _,rfl,fun j h=>by omega,ag _ _⟩
 case round=>
  obtain⟨k,hk,rfl,hno,hB⟩:=hrel;rw[HL.out] at hk;have HB:=ae hB;have hbz:=hB.size;have HNO:=ae hno;clear hB hno;by_cases hlt:k<P.length
  ·obtain⟨b,o,x,rfl,hb,hx,⟨a0,a1,a2,a3,a4⟩,hxl⟩:=(HP.out.below HB.out).elem (i:=k) hlt;obtain⟨b',o',y,e',hb',hy,⟨y0,y1,y2,y3,y4⟩,hyl⟩:=(HP.out.below HB.out).elem (i:=i) hi;simp only[aJ,Addr.mk.injEq,and_true] at e';obtain⟨rfl,rfl⟩:=e';have hk0:(0:Int)<=(k:Int):=aw _;have hk1:(k:Int)<(P.length:Int):=by omega
   have hbw:b<wr.heap.size:=by omega
   have HX:=ae (And.intro (acr hx) (acr hy));have HE:=ae (arT (g:=g) (x:=x) (y:=y) (HOK.out x (ak hx)) (HOK.out y (ak hy)));have hxs:=HSZ.out x (ak hx);have hys:=HSZ.out y (ak hy);obtain⟨W2,hW2⟩:∃W2,wr.alloc x.obj=W2:=⟨_,rfl⟩;have hs2:W2.heap.size=wr.heap.size+1:=by rw[←hW2];simp
   have hF2:Below wr.heap.size wr W2:=by rw[←hW2];exact(ag _ wr).alloc (af _) _
   obtain⟨l0,l1,l2,l3,l4⟩:=(show aai (Lc wr.heap.size x) W2 from by rw[←hW2];exact abS wr x).now;obtain⟨n,hn⟩:∃n,afr g x.t3 y.t3=n:=⟨_,rfl⟩
   have CE:=ae (fun(W:World) (hW:Below W2.heap.size W2 W)=>show Calls Tryz.prog 152 #[.slice ga g.length gc,x.v,y.v] W (fun e w'=>e= .returned (.tuple #[.int .i64 n,.int .i64 0])/\Below W.heap.size W w') from by
    have hw:=hF2.trans (hW.mono hF2.size);have h:=ahA g x y hxs hys w.heap.size ga gc W (by have:=hw.size;omega) (HG.out.below (HB.out.trans (hw.mono hbz))) (hxl.below (hw.mono hbz)) (hyl.below (hw.mono hbz));rw[HE.out.1,HE.out.2,hn] at h;exact h)
   have HN:=ae hn;have HB2:=ae (HB.out.trans (hF2.mono hbz));have c0:=(hF2.cell (p:=⟨b,o+i*5,none⟩) hbw).trans y0;have c1:=(hF2.cell (p:=⟨b,o+i*5+1,none⟩) hbw).trans y1;have c2:=(hF2.cell (p:=⟨b,o+i*5+2,none⟩) hbw).trans y2;have c3:=(hF2.cell (p:=⟨b,o+i*5+3,none⟩) hbw).trans y3;have c4:=(hF2.cell (p:=⟨b,o+i*5+4,none⟩) hbw).trans y4;have f0:=fun d os=>cell_regrown l0 d os;have f1:=fun d os=>cell_regrown l1 d os;have f2:=fun d os=>cell_regrown l2 d os;have f3:=fun d os=>cell_regrown l3 d os;have f4:=fun d os=>cell_regrown l4 d os;have g0:=fun d os=>cell_regrown c0 d os;have g1:=fun d os=>cell_regrown c1 d os;have g2:=fun d os=>cell_regrown c2 d os;have g3:=fun d os=>cell_regrown c3 d os;have g4:=fun d os=>cell_regrown c4 d os;clear hx hy hxl hyl hn hF2 hxs hys c0 c1 c2 c3 c4 y0 y1 y2 y3 y4;by_cases hki:k=i
   ·subst hki;clear CE;go_wp2
    go_roundw
    case rel=>exact⟨k+1,by rw[HL.out];omega,by go_num,ajB HNO.out arS,HB2.out⟩
    case measure=>simp[intOf];omega
   ·have hki':((k:Int)==(i:Int))=false:=beq_eq_false_iff_ne.2 (by omega);have HKI:=ae hki;clear hki;go_wp2;refine aa2 (by kernel_rfl) (by kernel_rfl) ?_
    repeat (first
     |(refine WQ.skip (by rfl) ?_;simp only[Act.put,List.setIfInBounds_toArray,List.set_cons_succ,List.set_cons_zero])
     |(apply WQ.two (by rfl);(intro w' hw';obtain⟨pq,rfl⟩:=hw';go_simp;first|(with_reducible exact Calls.regrown_of (CE.out _ (below_regrown _ _ _)))|exact rfl);simp only[Act.put,List.setIfInBounds_toArray,List.set_cons_succ,List.set_cons_zero]))
    refine WQ.nil ?_;intro _ hw';obtain⟨⟨dq,osq⟩,hw''⟩:=hw';subst hw'';have HB3:=ae (HB2.out.trans ((below_regrown W2 dq osq).mono (by omega)));by_cases h1:n=1
    ·have HF:=ae (aic (st:=st) (show k<(t3s P).length by rw[HL.out];exact hlt) (at9 HKI.out HX.out.1 HX.out.2 (HN.out.trans h1)));subst h1;go_wp2;go_ret;exact⟨by rw[HF.out];rfl,HB3.out⟩
    ·have h1':(n==1)=false:=by simpa using h1
     cases st with
     |false=>
      have HO:=ae (akC (g:=g) (st:=false) HX.out.1 HX.out.2 (fun e=>h1 (HN.out.symm.trans e)) (.inl rfl));clear h1;go_wp2
      go_roundw
      case rel=>exact⟨k+1,by rw[HL.out];omega,by go_num,ajB HNO.out HO.out,HB3.out⟩
      case measure=>simp[intOf];omega
     |true=>
      by_cases h0:n=0
      ·have HF:=ae (aic (show k<(t3s P).length by rw[HL.out];exact hlt) (aua HKI.out HX.out.1 HX.out.2 (HN.out.trans h0)));subst h0;clear h1 h1';go_wp2;go_ret;exact⟨by rw[HF.out];rfl,HB3.out⟩
      ·have HO:=ae (akC (g:=g) (st:=true) HX.out.1 HX.out.2 (fun e=>h1 (HN.out.symm.trans e)) (.inr fun e=>h0 (HN.out.symm.trans e)));have h0':(n==0)=false:=by simpa using h0
       clear h1 h0;go_wp2
       go_roundw
       case rel=>exact⟨k+1,by rw[HL.out];omega,by go_num,ajB HNO.out HO.out,HB3.out⟩
       case measure=>simp[intOf];omega
  ·obtain rfl:k=P.length:=by omega
   have HF:=ae (apx (g:=g) (C:=t3s P) (i:=i) (st:=st) (fun j hj=>HNO.out j (by rw[HL.out] at hj;exact hj)));go_wp2;go_ret;exact⟨by rw[HF.out];rfl,HB.out⟩
def ath(g:Sg)(C:List Lt3)(i:Int)(st:Bool)(w:World)(e:Ending)(w':World):Prop:=e= .returned (.tuple #[.bool (mxR g C i st),.int .i64 (mxE g C i)])/\Below w.heap.size w w'
theorem akO(g:Sg)(P:List LV)(hsz:∀x∈P,x.sz)(i:Int)(st:Bool)(aM:Nat)(ga:Option Addr)(gc:Nat)(a:Option Addr)(c:Nat)(w:World)(hn:aM<=w.heap.size)(hG:aaX aM w g ga gc)(hP:aaV aM w P a c):
 Calls Tryz.prog 168 #[.slice ga g.length gc,.slice a P.length c,.int .i64 i,.bool st] w (ath g (t3s P) i st w):=by
 have HI:=ae (fun W=>ag4 P i a c W hP.1 hP.2.1);have HSZ:=ae hsz;have HP:=ae (hP.mono hn);have HG:=ae (hG.mono hn);clear hP hG hsz;go_enter Tryz.func168,Tryz.ntmps168
 go_wp2_with fail
 refine(acN g P HSZ.out w.heap.size ga gc a c w (af _) HG.out HP.out).mono ?_;rintro e w2 ⟨rfl,hb⟩;have HB2:=ae hb;clear hb;by_cases he:aaN g (t3s P)=0
 case neg=>
  have HE:=ae (avA (i:=i) (st:=st) he);obtain⟨k,hk⟩:∃k,aaN g (t3s P)=k:=⟨_,rfl⟩;rw[hk] at he HE ⊢;have h2:(k != 0)=true:=by simpa using he
  clear he hk;go_wp2;refine bodyPost_ret (v:= .tuple #[.bool false,.int .i64 k]) (by simp[results,Tryz.results168,go_sem]) rfl ?_;exact⟨by rw[HE.out.1,HE.out.2],HB2.out⟩
 have HE:=ae he;rw[he];clear he
 go_wp2_with fail
 refine(HI.out w2).mono ?_;rintro e w3 ⟨rfl,hb⟩;have HB3:=ae (HB2.out.trans (hb.mono HB2.out.size));clear hb;cases hi:aid (t3s P) i with
 |false=>
  have HR:=ae (avB (st:=st) HE.out hi);clear hi;go_wp2;refine bodyPost_ret (v:= .tuple #[.bool false,.int .i64 1]) (by simp[results,Tryz.results168,go_sem]) rfl ?_;exact⟨by rw[HR.out.1,HR.out.2],HB3.out⟩
 |true=>
  have HR:=ae (aub (st:=st) HE.out hi)
  obtain⟨j,rfl,hj⟩:∃j:Nat,i=j/\j<P.length:=by
   simp[aid] at hi;exact⟨i.toNat,by omega,by omega⟩
  clear hi;have CM:=ae (ag5 g P HSZ.out HE.out j hj st w3.heap.size ga gc a c w3 (af _) ((HG.out.below HB3.out).mono HB3.out.size) ((HP.out.below HB3.out).mono HB3.out.size))
  go_wp2_with fail
  refine CM.out.mono ?_;rintro e w4 ⟨rfl,hb⟩;have HB4:=ae (HB3.out.trans (hb.mono HB3.out.size));clear hb CM;rw[Int.toNat_natCast] at HR;generalize ali g (t3s P) j st=q at HR ⊢;go_wp2;refine bodyPost_ret (v:= .tuple #[.bool q,.int .i64 0]) (by simp[results,Tryz.results168,go_sem]) rfl ?_;exact⟨by rw[HR.out.1,HR.out.2],HB4.out⟩
end Go.Proofs.YtabfapijgfjflaaGreat
