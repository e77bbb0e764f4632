import Derived.Test.YtabfapijgfjflaaGreatMQBb
import Derived.Test.YtabfapijgfjflaaGreatMQBc
import Derived.Test.YtabfapijgfjflaaGreatMQBe
import Derived.Test.YtabfapijgfjflaaGreatMQBd
import Derived.Lib.QuietBelow
import Derived.BigQuiet
import Derived.Test.YtabfapijgfjflaaGreatMQBk
import Derived.Test.YtabfapijgfjflaaGreatMAl
set_option linter.unusedVariables false
set_option linter.unusedSimpArgs false
set_option maxRecDepth 100000
set_option maxHeartbeats 4000000
namespace Go.Proofs.YtabfapijgfjflaaGreat
open Go.RowKit
theorem akx:∀(N:Nat) (t:T),t.size<=N->t.size<=1000000000000->∀(aM:Nat) (a:Option Addr) (c:Nat) (w:World),aM<=w.heap.size->aab aM w t.args a c->
 Calls Tryz.prog 160 #[tm t.head a t.args.length c] w fun e w'=>e= .returned (.int .i64 (t.depth:Nat))/\Below w.heap.size w w':=by
 intro N
 induction N with
 |zero=>intro t ht;have:=T.size_pos t;omega
 |succ N ih=>
  intro t ht hbig aM a c w hn hA;have IH:=ae ih;clear ih;have hsz:=T.size_eq t;have HS:=ae hsz;have HD:=ae (T.depth_eq t);have hdl:T.depths t.args<=1000000000000:=by have:=T.depths_le_sizes t.args;omega
  have HDL:=ae hdl;clear hsz hdl;have hlc:t.args.length<=c/\c<=maxLen:=⟨hA.1,hA.2.1⟩;unfold maxLen at hlc;obtain⟨hl1,hl2⟩:=hlc;generalize hL:t.args.length=len at*;have HL:=ae hL;clear hL;have HA:=ae hA;clear hA;go_enter Tryz.func160,Tryz.ntmps160;go_wp2
  go_loopw [3,4] (fun n i wr=>∃k:Nat,k<=len/\i= .int .i64 k/\n= .int .i64 (T.depths (t.args.take k):Nat)/\Below (w.heap.size+1) (w.alloc (aaa t.head a len c)) wr)
   (fun _ i _=>len-(intOf i).toNat)
  case atStart=>exact⟨0,Nat.zero_le _,rfl,by simp[T.depths],ag _ _⟩
  case round=>
   obtain⟨k,hk,rfl,rfl,hB⟩:=hrel;generalize hm':T.depths (t.args.take k)=m at*
   have hmb:m<=1000000000000:=by
    have h3:=T.depths_append (t.args.take k) (t.args.drop k);rw[List.take_append_drop] at h3;have:=HDL.out;omega
   have HM:=ae hm';clear hm';have hbox:wr.cell? ⟨w.heap.size,1,none⟩=some (.slice a len c):=(hB.cell (p:=⟨w.heap.size,1,none⟩) (by simp)).trans (by simp[go_sem]);have HB:=ae hB;clear hB;by_cases hlt:k<len
   ·have hw:Below aM w wr:=((ag aM w).alloc hn _).trans (HB.out.mono (by omega));obtain⟨b,o,s,a',c',rfl,hbn,hs,hwf,hc1,hc2,hA'⟩:=(HA.out.below hw).elem (i:=k) (by rw[HL.out];exact hlt);have hs1:wr.heap.size≥w.heap.size+1:=by have:=HB.out.size;simpa using this
    have hsN:s.size<=N:=by have:=T.size_lt_of_mem hs;have:=HS.out;omega
    have hsb:s.size<=1000000000000:=by have:=T.size_lt_of_mem hs;have:=HS.out;omega
    have HSS:=ae hs;have HA':=ae hA';clear hs hA' hw hwf
    go_wp2_with fail
    refine(IH.out s hsN hsb aM a' c' wr (by omega) HA'.out).mono ?_;rintro e w2 ⟨rfl,hB2⟩;generalize hr:s.depth=r at*;have HR:=ae hr;have HB2:=ae hB2;clear hr hB2;go_wp2
    go_roundw
    case rel=>
     refine⟨k+1,by omega,by go_num,?_,HB.out.trans (HB2.out.mono (by omega))⟩;have h1:=HM.out;have h2:=HR.out;have h3:=T.depths_take HSS.out;rw[h1,h2] at h3;rw[h3]
     congr 1
     omega
    case measure=>simp[intOf];omega
   ·go_wp2;go_ret;refine⟨?_,(((ag w.heap.size w).alloc (af _) _).trans (HB.out.mono (by omega)))⟩;have h1:=HM.out;have h2:=HD.out;rw[List.take_of_length_le (by have:=HL.out;omega)] at h1;rw[h2,h1];show Ending.returned (Value.int .i64 ((m:Int)+1))=_
    congr 2
    omega
theorem alQ:∀(N:Nat) (t:T),t.size<=N->t.size<=1000000000000->∀(aM:Nat) (a:Option Addr) (c:Nat) (w:World),aM<=w.heap.size->aab aM w t.args a c->
 Calls Tryz.prog 161 #[tm t.head a t.args.length c] w fun e w'=>e= .returned (.bool (!bad (T.subs 1 t)))/\Below w.heap.size w w':=by
 intro N
 induction N with
 |zero=>intro t ht;have:=T.size_pos t;omega
 |succ N ih=>
  intro t ht hbig aM a c w hn hA;have IH:=ae ih;clear ih;have HS:=ae (T.size_eq t);have HE:=ae (af8 t);have hlc:t.args.length<=c/\c<=maxLen:=⟨hA.1,hA.2.1⟩;unfold maxLen at hlc;obtain⟨hl1,hl2⟩:=hlc;generalize hL:t.args.length=len at*;have HL:=ae hL;clear hL;have HA:=ae hA;have HF:=ae (show Below w.heap.size w (w.alloc (aaa t.head a len c)) from(ag _ _).alloc (af _) _);clear hA;have hokN:∀(P:Prop),P->(okB t.head len=false)->True:=fun _ _ _=>trivial;clear hokN;by_cases q1:t.head<0
  ·by_cases q2:0<len
   ·have hd:bad (T.subs 1 t)=true:=by rw[HE.out];simp[okB,q1,show ¬len=0 from by omega]
    rw[hd];go_enter Tryz.func161,Tryz.ntmps161;go_wp2;go_ret;exact⟨by first|(rw[hd];rfl)|rfl,HF.out⟩
   ·obtain rfl:len=0:=by omega
    by_cases q3:t.head< -256
    ·have hd:bad (T.subs 1 t)=true:=by rw[HE.out];simp[okB,q1,show ¬ -1-t.head<=255 from by omega]
     rw[hd];go_enter Tryz.func161,Tryz.ntmps161;go_wp2;go_ret;exact⟨by first|(rw[hd];rfl)|rfl,HF.out⟩
    ·have hd:bad (T.subs 1 t)=false:=by
      rw[HE.out,aC HL.out];simp[okB,q1,show-1-t.head<=255 from by omega,T.subss,bad]
     rw[hd];have q4:¬1023<t.head:=by omega
     have q5:¬(8:Int)<0:=by omega
     go_enter Tryz.func161,Tryz.ntmps161;go_wp2
     go_loopw [3] (fun i wr=>i= .int .i64 0/\wr=w.alloc (aaa t.head a 0 c)) (fun _ _=>0)
     case atStart=>exact⟨by first|(rw[hd];rfl)|rfl,rfl⟩
     case round=>
      obtain⟨rfl,rfl⟩:=hrel;go_wp2;go_ret;exact⟨by first|(rw[hd];rfl)|rfl,HF.out⟩
  ·have q3:¬t.head< -256:=by omega
   by_cases q4:1023<t.head
   ·have hd:bad (T.subs 1 t)=true:=by rw[HE.out];simp[okB,q1,show ¬t.head<=1023 from by omega]
    rw[hd];go_enter Tryz.func161,Tryz.ntmps161;go_wp2;go_ret;exact⟨by first|(rw[hd];rfl)|rfl,HF.out⟩
   ·by_cases q5:8<len
    ·have hd:bad (T.subs 1 t)=true:=by rw[HE.out];simp[okB,q1,show ¬len<=8 from by omega]
     have q5':(8:Int)<(len:Int):=by omega
     rw[hd];go_enter Tryz.func161,Tryz.ntmps161;go_wp2;go_ret;exact⟨by first|(rw[hd];rfl)|rfl,HF.out⟩
    ·have hd:bad (T.subs 1 t)=bad (T.subss 2 t.args):=by rw[HE.out];simp[okB,q1,show t.head<=1023 from by omega,show len<=8 from by omega]
     have q5':¬(8:Int)<(len:Int):=by omega
     rw[hd];clear hd;go_enter Tryz.func161,Tryz.ntmps161;go_wp2
     go_loopw [3] (fun i wr=>∃k:Nat,k<=len/\i= .int .i64 k/\bad (T.subss 2 (t.args.take k))=false/\Below (w.heap.size+1) (w.alloc (aaa t.head a len c)) wr)
      (fun i _=>len-(intOf i).toNat)
     case atStart=>exact⟨0,Nat.zero_le _,rfl,by simp[T.subss,bad],ag _ _⟩
     case round=>
      obtain⟨k,hk,rfl,hbd,hB⟩:=hrel;have HBD:=ae hbd;have hbox:wr.cell? ⟨w.heap.size,1,none⟩=some (.slice a len c):=(hB.cell (p:=⟨w.heap.size,1,none⟩) (by simp)).trans (by simp[go_sem]);have HB:=ae hB;clear hB hbd;by_cases hlt:k<len
      ·have hw:Below aM w wr:=((ag aM w).alloc hn _).trans (HB.out.mono (by omega));obtain⟨b,o,s,a',c',rfl,hbn,hs,hwf,hc1,hc2,hA'⟩:=(HA.out.below hw).elem (i:=k) (by rw[HL.out];exact hlt);have hs1:wr.heap.size≥w.heap.size+1:=by have:=HB.out.size;simpa using this
       have hsN:s.size<=N:=by have:=T.size_lt_of_mem hs;have:=HS.out;omega
       have hsb:s.size<=1000000000000:=by have:=T.size_lt_of_mem hs;have:=HS.out;omega
       have HSS:=ae hs;have HA':=ae hA';clear hs hA' hw hwf
       go_wp2_with fail
       refine(IH.out s hsN hsb aM a' c' wr (by omega) HA'.out).mono ?_;rintro e w2 ⟨rfl,hB2⟩;have HB2:=ae (HB.out.trans (hB2.mono (by omega)));clear hB2;cases hb:bad (T.subs 1 s)
       ·have HBS:=ae hb;clear hb;go_wp2
        go_roundw
        case rel=>exact⟨k+1,by omega,by go_num,by rw[aj2 HSS.out,HBD.out,HBS.out];rfl,HB2.out⟩
        case measure=>simp[intOf];omega
       ·have hd:=amu HSS.out hb;clear hb;go_wp2;go_ret;exact⟨by first|(rw[hd];rfl)|rfl,((ag w.heap.size w).alloc (af _) _).trans (HB2.out.mono (by omega))⟩
      ·have hd:=HBD.out;rw[List.take_of_length_le (by have:=HL.out;omega)] at hd;go_wp2;go_ret;exact⟨by first|(rw[hd];rfl)|rfl,((ag w.heap.size w).alloc (af _) _).trans (HB.out.mono (by omega))⟩
theorem aky(t:T)(ht:t.size<=1000000000000)(aM:Nat)(a:Option Addr)(c:Nat)(w:World)(hn:aM<=w.heap.size)(hA:aab aM w t.args a c):
 Calls Tryz.prog 111 #[tm t.head a t.args.length c] w fun e w'=>e= .returned (.int .i64 t.check)/\Below w.heap.size w w':=by
 have hdl:=T.depth_le_size t;obtain⟨w1,hw1⟩:∃w1,w.alloc (aaa t.head a t.args.length c)=w1:=⟨_,rfl⟩;have hb1:Below w.heap.size w w1:=by rw[←hw1];exact(ag _ w).alloc (af _) _
 have L1:=ae (show ∀W,Below w1.heap.size w1 W->W.cell? ⟨w.heap.size,0,none⟩=some (.int .i64 t.head)/\W.cell? ⟨w.heap.size,1,none⟩=some (.slice a t.args.length c)/\aab aM W t.args a c/\Below w.heap.size w W/\aM<=W.heap.size from fun W hW=>by
  have h:=hb1.trans (hW.mono hb1.size);exact⟨(hW.cell (p:=⟨w.heap.size,0,none⟩) (by rw[←hw1];simp)).trans (by rw[←hw1];simp[go_sem]),(hW.cell (p:=⟨w.heap.size,1,none⟩) (by rw[←hw1];simp)).trans (by rw[←hw1];simp[go_sem]),hA.below (h.mono hn),h,aE hn h.size⟩)
 clear hA hb1;obtain⟨c0,c1,_,_,_⟩:=L1.out w1 (ag _ _);go_enter Tryz.func111,Tryz.ntmps111
 go_wp2_with fail
 obtain⟨_,_,hA,hb,hz⟩:=L1.out w1 (ag _ _);clear hw1 c0 c1;refine(ad5 t.size t (af _) ht aM a c w1 hz hA).mono ?_;rintro e w2 ⟨rfl,hb2⟩;clear hA hb hz;obtain⟨c0,c1,hA,hb,hz⟩:=L1.out w2 hb2;by_cases q1:400<t.size
 ·have hd:t.check=2:=by unfold T.check;rw[if_pos q1]
  have q1':(400:Int)<(t.size:Int):=by omega
  have HB:=ae hb;clear hb2 hA hb;go_wp2;go_ret;exact⟨by first|(rw[hd];rfl)|rfl,HB.out⟩
 ·have q1':¬(400:Int)<(t.size:Int):=by omega
  have HA:=ae hA;have HB2:=ae hb2;clear hA hb hb2
  go_wp2_with fail
  refine(akx t.size t (af _) ht aM a c w2 hz HA.out).mono ?_;rintro e w3 ⟨rfl,hb3⟩;have hb3':=HB2.out.trans (hb3.mono HB2.out.size);clear c0 c1 HA hz hb3;obtain⟨c0,c1,hA,hb,hz⟩:=L1.out w3 hb3';by_cases q2:40<t.depth
  ·have hd:t.check=7:=by unfold T.check;rw[if_neg q1,if_pos q2]
   have q2':(40:Int)<(t.depth:Int):=by omega
   have HB:=ae hb;clear hb3' hA hb;go_wp2;go_ret;exact⟨by first|(rw[hd];rfl)|rfl,HB.out⟩
  ·have q2':¬(40:Int)<(t.depth:Int):=by omega
   have HA:=ae hA;have HB3:=ae hb3';clear hA hb hb3'
   go_wp2_with fail
   refine(alQ t.size t (af _) ht aM a c w3 hz HA.out).mono ?_;rintro e w4 ⟨rfl,hb4⟩;have hb4':=HB3.out.trans (hb4.mono HB3.out.size);clear c0 c1 HA hz hb4;obtain⟨_,_,hA,hb,hz⟩:=L1.out w4 hb4';have HB:=ae hb;clear hb4' hA hb;cases hbd:bad (T.subs 1 t)
   ·have hd:t.check=0:=by unfold T.check;rw[if_neg q1,if_neg q2,hbd];rfl
    go_wp2;go_ret;exact⟨by first|(rw[hd];rfl)|rfl,HB.out⟩
   ·have hd:t.check=1:=by unfold T.check;rw[if_neg q1,if_neg q2,hbd];rfl
    go_wp2;go_ret;exact⟨by first|(rw[hd];rfl)|rfl,HB.out⟩
theorem aet(W:World)(n:Nat):Below W.heap.size W (W.drewN n):=⟨rfl,rfl,rfl,af _,fun _ _=>rfl⟩
theorem afs{g:Sg}(h:¬(1<=g.length/\g.length<=256)):aan g=false:=by
 unfold aan;by_cases h1:1<=g.length
 ·have h2:¬g.length<=256:=fun e=>h ⟨h1,e⟩;simp[h1,h2]
 ·simp[h1]
theorem ah7{g:Sg}{k:Nat}{x:Sy}(hx:g[k]? =some x)(hb:acT x=true):aan g=false:=by
 have:g.any acT=true:=List.any_eq_true.2 ⟨x,ak hx,hb⟩;unfold aan;simp[this]
theorem alR{g:Sg}{k j:Nat}{x y:Sy}(hx:g[k]? =some x)(hj:j<k)(hy:g[j]? =some y)(e:y.name=x.name):aan g=false:=by
 have:ahq g=false:=by
  cases hd:ahq g with
  |false=>rfl
  |true=>exact absurd e (aj9.1 hd k j x y hj hx hy)
 unfold aan;simp[this]
theorem anX{g:Sg}{x:Sy}(h1:1<=g.length)(h2:g.length<=256)(hx:g[0]? =some x)(hb:∀(j:Nat) (y:Sy),j<g.length->g[j]? =some y->acT y=false)(hd:avf g g.length):aan g=decide (x=sy0):=by
 have hd':=arp.1 hd
 have hany:g.any acT=false:=by
  rw[List.any_eq_false];intro y hy;obtain⟨j,hj⟩:=au hy;simp[hb j y (ah.1 hj).1 hj]
 unfold aan;simp[h1,h2,hx,hd',hany]
theorem avv(x y:Sy)(w:World):Sem.run Tryz.prog (binOp .eql 80 (sy x) (sy y)) w= .ok (.bool (decide (x=y))) w:=by
 have h:=aoJ x y w;simp only[sy] at h ⊢;rw[run_neq_struct] at h;rw[run_eql_struct];generalize (Op.equalIn 10000 80 (.agg #[.string x.name,.int .i64 x.ar,.int .i64 x.wt,.bool x.tr]) (.agg #[.string y.name,.int .i64 y.ar,.int .i64 y.wt,.bool y.tr])).run Tryz.prog w=r at h ⊢;cases r with
 |ok b w'=>
  simp only[Result.andThen] at h ⊢;injection h with h1 h2
  injection h1 with h1
  subst h2
  have:b=decide (x=y):=by
   by_cases e:x=y
   ·simp[e] at h1 ⊢;exact h1
   ·simp[e] at h1 ⊢;exact h1
  rw[this]
 |halt a w'=>simp[Result.andThen] at h
def RiI(g:Sg)(w:World)(i:Value)(wr:World):Prop:=∃k:Nat,k<=g.length/\i= .int .i64 k/\(∀(j:Nat) (y:Sy),j<k->g[j]? =some y->acT y=false)/\avf g k/\Below w.heap.size w wr
def RiJ(g:Sg)(x:Sy)(k:Nat)(B:Nat)(w1:World)(i:Value)(wr:World):Prop:=∃j:Nat,j<=k/\i= .int .i64 j/\(∀(l:Nat) (y:Sy),l<j->g[l]? =some y->y.name≠x.name)/\Below B w1 wr
theorem ad7(g:Sg)(aM:Nat)(a:Option Addr)(c:Nat)(w:World)(hn:aM<=w.heap.size)(hG:aaX aM w g a c):
 Calls Tryz.prog 39 #[.slice a g.length c] w fun e w'=>e= .returned (.bool (aan g))/\Below w.heap.size w w':=by
 have hlc:g.length<=c/\c<=maxLen:=⟨hG.1,hG.2.1⟩;unfold maxLen at hlc;obtain⟨hl1,hl2⟩:=hlc;have HG:=ae hG;clear hG;by_cases q1:g.length<1
 ·have HE:=ae (afs (g:=g) (by omega));go_enter Tryz.func39,Tryz.ntmps39;go_wp2;go_ret;exact⟨by rw[HE.out];rfl,ag _ _⟩
 by_cases q2:256<g.length
 ·have HE:=ae (afs (g:=g) (by omega));go_enter Tryz.func39,Tryz.ntmps39;go_wp2;go_ret;exact⟨by rw[HE.out];rfl,ag _ _⟩
 go_enter Tryz.func39,Tryz.ntmps39;go_wp2
 go_loopw [3,4,5] (fun i _ _ wr=>RiI g w i wr) (fun i _ _ _=>g.length-(intOf i).toNat)
 case atStart=>exact⟨0,Nat.zero_le _,rfl,fun j y hj=>by omega,fun i j x y hi=>by omega,ag _ _⟩
 case round=>
  obtain⟨k,hk,rfl,hbd,hdk,hB⟩:=hrel;have HBD:=ae hbd;have HDK:=ae hdk;have HB:=ae hB;have hbz:=hB.size;clear hbd hdk hB;by_cases hlt:k<g.length
  ·obtain⟨b,o,x,rfl,hbn,hs,hxw,hc0,hc1,hc2,hc3⟩:=(HG.out.below (HB.out.mono hn)).elem (i:=k) hlt;have hk0:(0:Int)<=(k:Int):=aw _;have hk1:(k:Int)<(g.length:Int):=by omega
   have hbw:b<wr.heap.size:=by omega
   have HXK:=ae hs;have hb1:Below w.heap.size w (wr.alloc (.cells #[.string x.name,.int .i64 x.ar,.int .i64 x.wt,.bool x.tr] 80)):=HB.out.alloc hbz _;have HB1:=ae hb1;have hxs:x.name.size<=9223372036854775807:=by have:=hxw.1;unfold maxLen at this;omega
   clear hs hxw hb1;by_cases hbad:acT x=true
   ·have HE:=ae (ah7 HXK.out hbad)
    have hcs:(x.name.size<1)\/(¬x.name.size<1/\64<x.name.size)\/(¬x.name.size<1/\¬64<x.name.size/\x.ar<0)\/(¬x.name.size<1/\¬64<x.name.size/\¬x.ar<0/\8<x.ar)\/(¬x.name.size<1/\¬64<x.name.size/\¬x.ar<0/\¬8<x.ar/\x.wt<1)\/(¬x.name.size<1/\¬64<x.name.size/\¬x.ar<0/\¬8<x.ar/\¬x.wt<1/\1000<x.wt):=by
     simp only[acT,Bool.or_eq_true,decide_eq_true_eq] at hbad;omega
    clear hbad
    rcases hcs with h1|⟨h1,h2⟩|⟨h1,h2,h3⟩|⟨h1,h2,h3,h4⟩|⟨h1,h2,h3,h4,h5⟩|⟨h1,h2,h3,h4,h5,h6⟩
    all_goals
     go_wp2;go_ret;exact⟨by rw[HE.out];rfl,HB1.out⟩
   ·have HNB:=ae (show acT x=false from by simpa using hbad);simp only[acT,Bool.or_eq_true,decide_eq_true_eq,not_or] at hbad;obtain⟨⟨⟨⟨⟨h1,h2⟩,h3⟩,h4⟩,h5⟩,h6⟩:=hbad;go_wp2;have hsz1:(wr.alloc (.cells #[.string x.name,.int .i64 x.ar,.int .i64 x.wt,.bool x.tr] 80)).heap.size=wr.heap.size+1:=by simp
    have hx0:(wr.alloc (.cells #[.string x.name,.int .i64 x.ar,.int .i64 x.wt,.bool x.tr] 80)).cell? ⟨wr.heap.size,0,none⟩=some (.string x.name):=by simp[go_sem]
    generalize wr.alloc (.cells #[.string x.name,.int .i64 x.ar,.int .i64 x.wt,.bool x.tr] 80)=w1 at*;generalize hB0:wr.heap.size=B0 at*
    go_loopw [5] (fun i wi=>RiJ g x k (B0+1) w1 i wi) (fun i _=>k-(intOf i).toNat)
    case atStart=>exact⟨0,Nat.zero_le _,rfl,fun j y hj=>by omega,ag _ _⟩
    case round=>
     obtain⟨j,hj,rfl,hno,hB2⟩:=hrel;have HNO:=ae hno;have HB2:=ae hB2;have hB2z:=hB2.size;clear hno hB2;by_cases hjk:j<k
     ·have hx0':=(HB2.out.cell (p:=⟨B0,0,none⟩) (by simp)).trans hx0;have hBr:Below w.heap.size w wr:=HB1.out.trans (HB2.out.mono (by omega));obtain⟨b',o',y,hbo,hbn',hy,hyw,hd0,_,_,_⟩:=(HG.out.below (hBr.mono hn)).elem (i:=j) (by omega);injection hbo with hbo
      injection hbo with hbo1 hbo2
      subst hbo1 hbo2;have hj0:(0:Int)<=(j:Int):=aw _;have hj1:(j:Int)<(g.length:Int):=by omega
      have hj2:(j:Int)<(k:Int):=by omega
      have HY:=ae hy;have HBR:=ae hBr;clear hy hyw hBr;by_cases he:y.name=x.name
      ·have HE:=ae (alR HXK.out hjk HY.out he);rw[←he] at hx0';go_wp2
       go_quiet (fail)
       go_wp2;go_ret;exact⟨by rw[HE.out];rfl,HBR.out.trans ((aet _ _).mono HBR.out.size)⟩
      ·have hne3:(y.name.toList==x.name.toList)=false:=by simpa using(show y.name.toList≠x.name.toList from fun e=>he ((asS _ _).1 e))
       go_wp2
       go_quiet (fail)
       go_wp2
       go_roundw
       case rel=>exact⟨j+1,by omega,by go_num,fun l z hl hz=>by
        by_cases e:l=j
        ·subst e;rw[HY.out] at hz;obtain rfl:=Option.some.inj hz;exact he
        ·exact HNO.out l z (by omega) hz,HB2.out.trans ((aet _ _).mono (by omega))⟩
       case measure=>simp[intOf];omega
     ·obtain rfl:j=k:=by omega
      go_wp2
      go_roundw
      case rel=>exact⟨j+1,by omega,by go_num,fun l z hl hz=>by
       by_cases e:l=j
       ·subst e;rw[HXK.out] at hz;obtain rfl:=Option.some.inj hz;exact HNB.out
       ·exact HBD.out l z (by omega) hz,(aoR HXK.out).2 ⟨HDK.out,fun l z hl hz=>HNO.out l z hl hz⟩,HB1.out.trans (HB2.out.mono (by omega))⟩
      case measure=>simp[intOf];omega
  ·obtain rfl:k=g.length:=by omega
   obtain⟨b,o,x,rfl,hbn,hs,hxw,hc0,hc1,hc2,hc3⟩:=(HG.out.below (HB.out.mono hn)).elem (i:=0) (by omega);simp only[Nat.zero_mul,Nat.add_zero] at hc0 hc1 hc2 hc3;have HE:=ae (anX (by omega) (by omega) hs HBD.out HDK.out);have hgd:=fun(op:BinOp) (p q:Operand) (u v:Array Value) (W:World)=>run_eqGuard_agg (P:=Tryz.prog) W op 80 p q u v (by kernel_rfl);have heql:∀W,Sem.run Tryz.prog (binOp .eql 80 (.agg #[.string x.name,.int .i64 x.ar,.int .i64 x.wt,.bool x.tr]) (.agg #[.string ⟨#[36,116,114,117,101]⟩,.int .i64 0,.int .i64 1,.bool true])) W= .ok (.bool (decide (x=sy0))) W:=fun W=>avv x sy0 W;clear hs hxw;have h0k:(0:Int)<(g.length:Int):=by omega
   go_wp2;go_ret;exact⟨by rw[HE.out];rfl,HB.out⟩
theorem ah8{g:Sg}{t:T}(h0:0<=t.head)(h:acU g t.head t.args.length=false):aaL g t=false:=by
 rw[aa4,h];simp;omega
theorem apq{g:Sg}{t:T}(h0:0<=t.head)(h:acU g t.head t.args.length=true):aaL g t=af5 g t.args:=by
 rw[aa4,h];simp;omega
def KnI(g:Sg)(t:T)(B:Nat)(w1:World)(i:Value)(wr:World):Prop:=∃k:Nat,k<=t.args.length/\i= .int .i64 k/\af5 g (t.args.take k)=true/\Below B w1 wr
theorem alS(g:Sg):∀(N:Nat) (t:T),t.size<=N->∀(aM:Nat) (ga:Option Addr) (gc:Nat) (a:Option Addr) (c:Nat) (w:World),aM<=w.heap.size->aaX aM w g ga gc->aab aM w t.args a c->
 Calls Tryz.prog 126 #[.slice ga g.length gc,tm t.head a t.args.length c] w fun e w'=>e= .returned (.bool (aaL g t))/\Below w.heap.size w w':=by
 intro N
 induction N with
 |zero=>intro t ht;have:=T.size_pos t;omega
 |succ N ih=>
  intro t ht aM ga gc a c w hn hG hA;have IH:=ae ih;clear ih;have hlc:t.args.length<=c/\c<=maxLen:=⟨hA.1,hA.2.1⟩;have hlg:g.length<=gc/\gc<=maxLen:=⟨hG.1,hG.2.1⟩;unfold maxLen at hlc hlg;obtain⟨hl1,hl2⟩:=hlc;obtain⟨hl3,hl4⟩:=hlg
  have HS:=ae (show ∀s∈t.args,s.size<=N from fun s hs=>by
   obtain⟨i,hi⟩:=au hs;have h1:=T.size_lt_of_mem hi;have h2:=T.size_eq t;omega)
  have HA:=ae hA;have HG:=ae hG;clear hA hG;obtain⟨W1,hW1⟩:∃W1,w.alloc (aaa t.head a t.args.length c)=W1:=⟨_,rfl⟩;have HF:=ae (show Below w.heap.size w W1 from by rw[←hW1];exact(ag _ w).alloc (af _) _);have hs1:W1.heap.size=w.heap.size+1:=by rw[←hW1];simp
  have ht0:W1.cell? ⟨w.heap.size,0,none⟩=some (.int .i64 t.head):=by rw[←hW1];simp[go_sem]
  have ht1:W1.cell? ⟨w.heap.size,1,none⟩=some (.slice a t.args.length c):=by rw[←hW1];simp[go_sem]
  by_cases q1:t.head<0
  ·have HD:=ae (show aaL g t=true from by rw[aa4];simp[q1]);go_enter Tryz.func126,Tryz.ntmps126;go_wp2;go_ret;exact⟨by rw[HD.out];rfl,HF.out⟩
  by_cases q2:(g.length:Int)<=t.head
  ·have HD:=ae (ah8 (g:=g) (t:=t) (by omega) (by unfold acU;rw[List.getElem?_eq_none (by omega)];simp;omega));go_enter Tryz.func126,Tryz.ntmps126;go_wp2;clear hW1
   go_quiet (fail)
   go_wp2;go_ret;exact⟨by rw[HD.out];rfl,HF.out.trans ((aet _ _).mono HF.out.size)⟩
  obtain⟨b,o,x,rfl,hbn,hs,hxw,hc0,hc1,hc2,hc3⟩:=HG.out.elem (i:=t.head.toNat) (by omega);have hk0:(0:Int)<=t.head:=by omega
  have hk1:t.head<(g.length:Int):=by omega
  have HAR:=ae (show acU g t.head t.args.length=decide ((t.args.length:Int)=x.ar) from by unfold acU;rw[hs];simp;omega);have hbw:b<w.heap.size:=by omega
  have hx1:W1.cell? ⟨b,o+t.head.toNat*4+1,none⟩=some (.int .i64 x.ar):=(HF.out.cell (p:=⟨b,_,none⟩) hbw).trans hc1;clear hs hxw hc0 hc1 hc2 hc3;by_cases q3:(t.args.length:Int)=x.ar
  ·have HD:=ae (apq (g:=g) (t:=t) hk0 (by rw[HAR.out];exact decide_eq_true q3));have q3':((t.args.length:Int) != x.ar)=false:=by simpa using q3
   go_enter Tryz.func126,Tryz.ntmps126;go_wp2;clear hW1
   go_quiet (fail)
   go_wp2
   go_loopw [5] (fun i wr=>KnI g t (w.heap.size+1) W1 i wr) (fun i _=>t.args.length-(intOf i).toNat)
   case atStart=>exact⟨0,Nat.zero_le _,rfl,rfl,(aet _ _).mono (by omega)⟩
   case round=>
    obtain⟨k,hk,rfl,hpre,hB⟩:=hrel;have HPRE:=ae hpre;have HB:=ae hB;have hbz:=hB.size;have hv1:wr.cell? ⟨w.heap.size,1,none⟩=some (.slice a t.args.length c):=(hB.cell (p:=⟨w.heap.size,1,none⟩) (by simp)).trans ht1;have HBW:=ae (show Below w.heap.size w wr from HF.out.trans (hB.mono (by omega)));clear hpre hB hx1 ht0 ht1;by_cases hlt:k<t.args.length
    ·obtain⟨b',o',s,a',c',rfl,hbn',hs,hswf,hc1,hc2,hA'⟩:=(HA.out.below (HBW.out.mono hn)).elem (i:=k) hlt;have hk2:(0:Int)<=(k:Int):=aw _;have hk3:(k:Int)<(t.args.length:Int):=by omega
     have HSK:=ae hs;have CK:=ae (IH.out s (HS.out s (ak hs)) aM (some ⟨b,o,none⟩) gc a' c' wr (by omega) (HG.out.below (HBW.out.mono hn)) hA');clear hs hswf hA'
     go_wp2_with fail
     refine CK.out.mono ?_;rintro e w2 ⟨rfl,hb2⟩;have HB2:=ae (HB.out.trans (hb2.mono (by omega)));have HBW2:=ae (HBW.out.trans (hb2.mono HBW.out.size));clear hb2;cases hf:aaL g s with
     |true=>
      have HT:=ae (show af5 g (t.args.take (k+1))=true from by rw[anF HSK.out,HPRE.out,hf];rfl);clear hf;go_wp2
      go_roundw
      case rel=>exact⟨k+1,by omega,by go_num,HT.out,HB2.out⟩
      case measure=>simp[intOf];omega
     |false=>
      have HE:=ae (show aaL g t=false from by rw[HD.out];exact aoT HSK.out hf);clear hf;go_wp2;go_ret;exact⟨by rw[HE.out];rfl,HBW2.out⟩
    ·obtain rfl:k=t.args.length:=by omega
     have HE:=ae (show aaL g t=true from by rw[HD.out];have:=HPRE.out;rwa[List.take_length] at this);go_wp2;go_ret;exact⟨by rw[HE.out];rfl,HBW.out⟩
  ·have HD:=ae (ah8 (g:=g) (t:=t) hk0 (by rw[HAR.out];exact decide_eq_false q3));have q3':((t.args.length:Int) != x.ar)=true:=by simpa using q3
   go_enter Tryz.func126,Tryz.ntmps126;go_wp2;clear hW1
   go_quiet (fail)
   go_wp2;go_ret;exact⟨by rw[HD.out];rfl,HF.out.trans ((aet _ _).mono HF.out.size)⟩
theorem ad8(g:Sg)(t:T)(aM:Nat)(ga:Option Addr)(gc:Nat)(a:Option Addr)(c:Nat)(w:World)(hn:aM<=w.heap.size)(hG:aaX aM w g ga gc)(hA:aab aM w t.args a c):
 Calls Tryz.prog 78 #[.slice ga g.length gc,tm t.head a t.args.length c] w fun e w'=>e= .returned (.bool (aap g t.head))/\Below w.heap.size w w':=by
 have hlg:g.length<=gc/\gc<=maxLen:=⟨hG.1,hG.2.1⟩;unfold maxLen at hlg;obtain⟨hl3,hl4⟩:=hlg;have HF:=ae (show Below w.heap.size w (w.alloc (aaa t.head a t.args.length c)) from(ag _ w).alloc (af _) _);by_cases q1:t.head<0
 ·have HD:=ae (show aap g t.head=false from by unfold aap;simp[show ¬0<=t.head from by omega]);clear hG hA;go_enter Tryz.func78,Tryz.ntmps78;go_wp2;go_ret;exact⟨by rw[HD.out];rfl,HF.out⟩
 by_cases q2:t.head<(g.length:Int)
 ·obtain⟨b,o,x,rfl,hbn,hs,hxw,hc0,hc1,hc2,hc3⟩:=hG.elem (i:=t.head.toNat) (by omega);have hk0:(0:Int)<=t.head:=by omega
  have HD:=ae (show aap g t.head=x.tr from by unfold aap;rw[hs];simp[hk0]);have hbw:b<w.heap.size:=by omega
  clear hG hA hs hxw hc0 hc1 hc2;go_enter Tryz.func78,Tryz.ntmps78;go_wp2;go_ret;exact⟨by rw[HD.out];rfl,HF.out⟩
 ·have HD:=ae (show aap g t.head=false from by unfold aap;rw[List.getElem?_eq_none (by omega)];simp);clear hG hA;go_enter Tryz.func78,Tryz.ntmps78;go_wp2;go_ret;exact⟨by rw[HD.out];rfl,HF.out⟩
def ThI(g:Sg)(t:T)(B:Nat)(w1:World)(i:Value)(wr:World):Prop:=∃k:Nat,k<=t.args.length/\i= .int .i64 k/\abu g (t.args.take k)=false/\Below B w1 wr
theorem akz(g:Sg):∀(N:Nat) (t:T),t.size<=N->∀(aM:Nat) (ga:Option Addr) (gc:Nat) (a:Option Addr) (c:Nat) (w:World),aM<=w.heap.size->aaX aM w g ga gc->aab aM w t.args a c->
 Calls Tryz.prog 127 #[.slice ga g.length gc,tm t.head a t.args.length c] w fun e w'=>e= .returned (.bool (!abu g t.args))/\Below w.heap.size w w':=by
 intro N
 induction N with
 |zero=>intro t ht;have:=T.size_pos t;omega
 |succ N ih=>
  intro t ht aM ga gc a c w hn hG hA;have IH:=ae ih;clear ih;have hlc:t.args.length<=c/\c<=maxLen:=⟨hA.1,hA.2.1⟩;unfold maxLen at hlc;obtain⟨hl1,hl2⟩:=hlc
  have HS:=ae (show ∀s∈t.args,s.size<=N from fun s hs=>by
   obtain⟨i,hi⟩:=au hs;have h1:=T.size_lt_of_mem hi;have h2:=T.size_eq t;omega)
  have HA:=ae hA;have HG:=ae hG;clear hA hG;go_enter Tryz.func127,Tryz.ntmps127;go_wp2;obtain⟨W1,hW1⟩:∃W1,w.alloc (aaa t.head a t.args.length c)=W1:=⟨_,rfl⟩;have HF:=ae (show Below w.heap.size w W1 from by rw[←hW1];exact(ag _ w).alloc (af _) _);have hs1:W1.heap.size=w.heap.size+1:=by rw[←hW1];simp
  have ht1:W1.cell? ⟨w.heap.size,1,none⟩=some (.slice a t.args.length c):=by rw[←hW1];simp[go_sem]
  rw[hW1];clear hW1
  go_loopw [5] (fun i wr=>ThI g t (w.heap.size+1) W1 i wr) (fun i _=>t.args.length-(intOf i).toNat)
  case atStart=>exact⟨0,Nat.zero_le _,rfl,rfl,ag _ _⟩
  case round=>
   obtain⟨k,hk,rfl,hpre,hB⟩:=hrel;have HPRE:=ae hpre;have HB:=ae hB;have hbz:=hB.size;have hv1:wr.cell? ⟨w.heap.size,1,none⟩=some (.slice a t.args.length c):=(hB.cell (p:=⟨w.heap.size,1,none⟩) (by simp)).trans ht1;have HBW:=ae (show Below w.heap.size w wr from HF.out.trans (hB.mono (by omega)));clear hpre hB ht1;by_cases hlt:k<t.args.length
   ·obtain⟨b',o',s,a',c',rfl,hbn',hs,hswf,hc1,hc2,hA'⟩:=(HA.out.below (HBW.out.mono hn)).elem (i:=k) hlt;have hk2:(0:Int)<=(k:Int):=aw _;have hk3:(k:Int)<(t.args.length:Int):=by omega
    have HSK:=ae hs;have CT:=ae (ad8 g s aM ga gc a' c' wr (by omega) (HG.out.below (HBW.out.mono hn)) hA');have CK:=ae (fun(W:World) (hW:Below wr.heap.size wr W)=>IH.out s (HS.out s (ak hs)) aM ga gc a' c' W (by have:=hW.size;omega) (HG.out.below ((HBW.out.trans (hW.mono HBW.out.size)).mono hn)) (hA'.below (hW.mono (by omega))));have hbw':b'<wr.heap.size:=by omega
    clear hs hswf hA'
    go_wp2_with fail
    refine CT.out.mono ?_;rintro e w2 ⟨rfl,hb2⟩;have HB2:=ae (HB.out.trans (hb2.mono (by omega)));have HBW2:=ae (HBW.out.trans (hb2.mono HBW.out.size));have hb2z:=hb2.size;cases hp:aap g s.head with
    |true=>
     have HE:=ae (show abu g t.args=true from aka HSK.out (by rw[abc,hp];rfl));clear hp hb2;go_wp2;go_ret;exact⟨by rw[HE.out];rfl,HBW2.out⟩
    |false=>
     have hv2:w2.cell? ⟨w.heap.size,1,none⟩=some (.slice (some ⟨b',o',none⟩) t.args.length c):=(hb2.cell (p:=⟨w.heap.size,1,none⟩) (by show w.heap.size<_;omega)).trans hv1;have hd1:=(hb2.cell (p:=⟨b',o'+k*2,none⟩) hbw').trans hc1;have hd2:=(hb2.cell (p:=⟨b',o'+k*2+1,none⟩) hbw').trans hc2;have CK2:=ae (CK.out w2 hb2);have HPS:=ae hp;clear hb2 hv1 hc1 hc2 hp CK CT
     go_wp2_with fail
     refine CK2.out.mono ?_;rintro e w3 ⟨rfl,hb3⟩;have HB3:=ae (HB2.out.trans (hb3.mono (by omega)));have HBW3:=ae (HBW2.out.trans (hb3.mono HBW2.out.size));clear hb3;cases hf:abu g s.args with
     |false=>
      have HT:=ae (show abu g (t.args.take (k+1))=false from by rw[anG HSK.out,HPRE.out,abc,HPS.out,hf];rfl);clear hf;go_wp2
      go_roundw
      case rel=>exact⟨k+1,by omega,by go_num,HT.out,HB3.out⟩
      case measure=>simp[intOf];omega
     |true=>
      have HE:=ae (show abu g t.args=true from aka HSK.out (by rw[abc,hf];simp));clear hf;go_wp2;go_ret;exact⟨by rw[HE.out];rfl,HBW3.out⟩
   ·obtain rfl:k=t.args.length:=by omega
    have HE:=ae (show abu g t.args=false from by have:=HPRE.out;rwa[List.take_length] at this);go_wp2;go_ret;exact⟨by rw[HE.out];rfl,HBW.out⟩
theorem ah9(g:Sg)(t:T)(hsz:t.size<=1000000000000)(aM:Nat)(ga:Option Addr)(gc:Nat)(a:Option Addr)(c:Nat)(w:World)(hn:aM<=w.heap.size)(hG:aaX aM w g ga gc)(hA:aab aM w t.args a c):
 Calls Tryz.prog 77 #[.slice ga g.length gc,tm t.head a t.args.length c] w fun e w'=>e= .returned (.int .i64 (aaH g t))/\Below w.heap.size w w':=by
 obtain⟨W1,hW1⟩:∃W1,w.alloc (aaa t.head a t.args.length c)=W1:=⟨_,rfl⟩
 have L1:=ae (show ∀W,Below W1.heap.size W1 W->W.cell? ⟨w.heap.size,0,none⟩=some (.int .i64 t.head)/\W.cell? ⟨w.heap.size,1,none⟩=some (.slice a t.args.length c)/\aaX aM W g ga gc/\aab aM W t.args a c/\Below w.heap.size w W/\aM<=W.heap.size from fun W hW=>by
  have h0:Below w.heap.size w W1:=by rw[←hW1];exact(ag _ w).alloc (af _) _
  have h:=h0.trans (hW.mono h0.size);exact⟨(hW.cell (p:=⟨w.heap.size,0,none⟩) (by rw[←hW1];simp)).trans (by rw[←hW1];simp[go_sem]),(hW.cell (p:=⟨w.heap.size,1,none⟩) (by rw[←hW1];simp)).trans (by rw[←hW1];simp[go_sem]),hG.below (h.mono hn),hA.below (h.mono hn),h,aE hn h.size⟩)
 clear hG hA;go_enter Tryz.func77,Tryz.ntmps77
 go_wp2_with fail
 try rw[hW1]
 obtain⟨_,_,hG1,_,_,hn1⟩:=L1.out W1 (ag _ _);refine(ad7 g aM ga gc W1 hn1 hG1).mono ?_;rintro e w2 ⟨rfl,hb2⟩;have B2:=ae hb2;clear hb2 hG1 hW1;obtain⟨c0,c1,hG2,hA2,hb,hn2⟩:=L1.out w2 B2.out;cases hr:aan g with
 |false=>
  have HD:=ae (show aaH g t=1 from by unfold aaH;rw[hr];rfl);have HB:=ae hb;clear hr hG2 hA2 hb;go_wp2;go_ret;exact⟨by rw[HD.out];rfl,HB.out⟩
 |true=>
 have HR:=ae hr;have CK:=ae (aky t hsz aM a c w2 hn2 hA2);clear hr hG2 hA2 hb
 go_wp2_with fail
 refine CK.out.mono ?_;rintro e w3 ⟨rfl,hb3⟩;have B3:=ae (B2.out.trans (hb3.mono B2.out.size));clear hb3 c0 c1 B2 CK;obtain⟨c0,c1,hG3,hA3,hb,hn3⟩:=L1.out w3 B3.out;by_cases hc:t.check=0
 case neg=>
  have HD:=ae (show aaH g t=t.check from by unfold aaH;rw[HR.out,if_pos rfl,if_neg hc]);obtain⟨k,hk⟩:∃k,t.check=k:=⟨_,rfl⟩;rw[hk] at HD hc ⊢;have hk0:(k != 0)=true:=by simpa using hc
  have HB:=ae hb;clear hG3 hA3 hb hc hk;go_wp2;go_ret;exact⟨by rw[HD.out];rfl,HB.out⟩
 have HC:=ae hc;rw[hc];have CN:=ae (alS g t.size t (af _) aM ga gc a c w3 hn3 hG3 hA3);clear hc hG3 hA3 hb
 go_wp2_with fail
 refine CN.out.mono ?_;rintro e w4 ⟨rfl,hb4⟩;have B4:=ae (B3.out.trans (hb4.mono B3.out.size));clear hb4 c0 c1 B3 CN;obtain⟨c0,c1,hG4,hA4,hb,hn4⟩:=L1.out w4 B4.out;cases hf:aaL g t with
 |false=>
  have HD:=ae (show aaH g t=1 from by unfold aaH;rw[HR.out,if_pos rfl,if_pos HC.out,hf];rfl);have HB:=ae hb;clear hf hG4 hA4 hb;go_wp2;go_ret;exact⟨by rw[HD.out];rfl,HB.out⟩
 |true=>
 have HF:=ae hf;have CT:=ae (akz g t.size t (af _) aM ga gc a c w4 hn4 hG4 hA4);clear hf hG4 hA4 hb
 go_wp2_with fail
 refine CT.out.mono ?_;rintro e w5 ⟨rfl,hb5⟩;have B5:=ae (B4.out.trans (hb5.mono B4.out.size));clear hb5 c0 c1 B4 CT;obtain⟨_,_,_,_,hb,_⟩:=L1.out w5 B5.out;have HB:=ae hb;clear hb;cases hp:abu g t.args with
 |true=>
  have HD:=ae (show aaH g t=10 from by unfold aaH;rw[HR.out,if_pos rfl,if_pos HC.out,HF.out,if_pos rfl,hp];rfl);clear hp;go_wp2;go_ret;exact⟨by rw[HD.out];rfl,HB.out⟩
 |false=>
  have HD:=ae (show aaH g t=0 from by unfold aaH;rw[HR.out,if_pos rfl,if_pos HC.out,HF.out,if_pos rfl,hp];rfl);clear hp;go_wp2;go_ret;exact⟨by rw[HD.out];rfl,HB.out⟩
theorem ajd(g:Sg)(x:LV)(hx:x.sz)(aM:Nat)(ga:Option Addr)(gc:Nat)(w:World)(hn:aM<=w.heap.size)(hG:aaX aM w g ga gc)(hX:aa1 aM w x):
 Calls Tryz.prog 43 #[.slice ga g.length gc,x.v] w fun e w'=>e= .returned (.int .i64 (abn g x.l x.r))/\Below w.heap.size w w':=by
 have d0:=(((aai.below (ag _ w)).and (abT (hX.mono hn))).and (acS (hG.mono hn))).pushL (ag _ _) x;have C1:=ae (fun(W:World) (hG:aaX W.heap.size W g ga gc) (hX:aa1 W.heap.size W x)=>ah9 g x.l hx.1 W.heap.size ga gc x.pa x.ca W (af _) hG hX.la);have C2:=ae (fun(W:World) (hG:aaX W.heap.size W g ga gc) (hX:aa1 W.heap.size W x)=>ah9 g x.r hx.2 W.heap.size ga gc x.pb x.cb W (af _) hG hX.ra);have C3:=ae (fun(W:World) (hG:aaX W.heap.size W g ga gc) (hX:aa1 W.heap.size W x)=>ad8 g x.l W.heap.size ga gc x.pa x.ca W (af _) hG hX.la);have C4:=ae (fun(W:World) (hG:aaX W.heap.size W g ga gc) (hX:aa1 W.heap.size W x)=>ad8 g x.r W.heap.size ga gc x.pb x.cb W (af _) hG hX.ra);have D:=ae d0;clear d0 hG hX;go_enter Tryz.func43,Tryz.ntmps43
 go_wp2_with fail
 generalize w.alloc x.obj=w1 at D ⊢;generalize hb0:w.heap.size=b0 at D ⊢;have HB0:=ae hb0;clear hb0;refine(C1.out w1 D.out.now.2.1 D.out.now.2.2.1).mono ?_;rintro e w2 ⟨rfl,hb⟩;have D2:=ae (D.out.mv hb);clear hb D C1;obtain⟨⟨x0,x1,x2,x3,x4⟩,_⟩:=D2.out.now;by_cases h1:aaH g x.l=0
 case neg=>
  have HE:=ae (akn (r:=x.r) h1);have HQ:=ae D2.out.now.2.2.2;obtain⟨k,hk⟩:∃k,aaH g x.l=k:=⟨_,rfl⟩;rw[hk] at HE h1 ⊢;have h2:(k != 0)=true:=by simpa using h1
  clear h1 hk;go_wp2;go_ret;exact⟨by rw[HE.out];rfl,by rw[HB0.out];exact HQ.out⟩
 have H1:=ae h1;rw[h1];clear h1
 go_wp2_with fail
 refine(C2.out w2 D2.out.now.2.1 D2.out.now.2.2.1).mono ?_;clear x0 x1 x2 x3 x4;rintro e w3 ⟨rfl,hb⟩;have D3:=ae (D2.out.mv hb);clear hb D2 C2;obtain⟨⟨x0,x1,x2,x3,x4⟩,_⟩:=D3.out.now;by_cases h1:aaH g x.r=0
 case neg=>
  have HE:=ae (ah1 H1.out h1);have HQ:=ae D3.out.now.2.2.2;obtain⟨k,hk⟩:∃k,aaH g x.r=k:=⟨_,rfl⟩;rw[hk] at HE h1 ⊢;have h2:(k != 0)=true:=by simpa using h1
  clear h1 hk;go_wp2;go_ret;exact⟨by rw[HE.out];rfl,by rw[HB0.out];exact HQ.out⟩
 have HE:=ae (ako H1.out h1);rw[h1];clear h1
 go_wp2_with fail
 refine(C3.out w3 D3.out.now.2.1 D3.out.now.2.2.1).mono ?_;clear x0 x1 x2 x3 x4;rintro e w4 ⟨rfl,hb⟩;have D4:=ae (D3.out.mv hb);clear hb D3 C3;obtain⟨⟨x0,x1,x2,x3,x4⟩,_⟩:=D4.out.now;cases hp:aap g x.l.head with
 |true=>
  have HQ:=ae D4.out.now.2.2.2;by_cases hr:x.r.head=0
  ·have HS:=ae (show abn g x.l x.r=0 from by rw[HE.out];unfold ace;rw[if_pos hp,if_pos hr]);rw[hr] at x3;clear hp hr;go_wp2;go_ret;exact⟨by rw[HS.out];rfl,by rw[HB0.out];exact HQ.out⟩
  ·have HS:=ae (show abn g x.l x.r=10 from by rw[HE.out];unfold ace;rw[if_pos hp,if_neg hr]);have hr':(x.r.head != 0)=true:=by simpa using hr
   clear hp hr;go_wp2;go_ret;exact⟨by rw[HS.out];rfl,by rw[HB0.out];exact HQ.out⟩
 |false=>
  have HS:=ae (show abn g x.l x.r=if aap g x.r.head then 10 else 0 from by rw[HE.out];unfold ace;rw[if_neg (by rw[hp];decide)]);clear hp
  go_wp2_with fail
  refine(C4.out w4 D4.out.now.2.1 D4.out.now.2.2.1).mono ?_;clear x0 x1 x2 x3 x4;rintro e w5 ⟨rfl,hb⟩;have HQ:=ae (D4.out.mv hb).now.2.2.2;clear hb D4 C4;cases hq:aap g x.r.head with
  |true=>
   have HT:=ae (show abn g x.l x.r=10 from by rw[HS.out,hq];rfl);clear hq;go_wp2;go_ret;exact⟨by rw[HT.out];rfl,by rw[HB0.out];exact HQ.out⟩
  |false=>
   have HT:=ae (show abn g x.l x.r=0 from by rw[HS.out,hq];rfl);clear hq;go_wp2;go_ret;exact⟨by rw[HT.out];rfl,by rw[HB0.out];exact HQ.out⟩
end Go.Proofs.YtabfapijgfjflaaGreat
