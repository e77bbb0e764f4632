import Derived.Test.YtabfapijgfjflaaGreatMQBz
import Derived.Test.YtabfapijgfjflaaGreatMQBk
import Derived.Test.YtabfapijgfjflaaGreatMQBn
import Derived.Test.YtabfapijgfjflaaGreatMQBp
import Derived.BigQuiet
import Derived.Deep.QuietTactic
import Derived.Lib.QuietBelow
import Derived.Test.YtabfapijgfjflaaGreatMQBz27
import Derived.Test.YtabfapijgfjflaaGreatMQBl
import Derived.Test.YtabfapijgfjflaaGreatMQBm
import Derived.Test.YtabfapijgfjflaaGreatMQBa
import Derived.Test.YtabfapijgfjflaaGreatMQBd
import Derived.Test.YtabfapijgfjflaaGreatMQBb
import Derived.Test.YtabfapijgfjflaaGreatMQBc
import Derived.Deep.RegionLaw
import Derived.Deep.CutRange
import Derived.Test.YtabfapijgfjflaaGreatMQBt
import Derived.Test.YtabfapijgfjflaaGreatMQBo
import Derived.Test.YtabfapijgfjflaaGreatMQBw
import Derived.Test.YtabfapijgfjflaaGreatMQBg
import Derived.Deep.RegionHeld3
import Derived.StillTailTactics
import Derived.Shelf.SlIterI.Nil
import Derived.Shelf.SortM.Plain
import Derived.Shelf.SortM.SortNone
import Derived.Ground.GgzProg
import Derived.Ground.SlgmProg
import Derived.Deep.AppendLies
import Derived.Test.YtabfapijgfjflaaGreatMQBu
import Derived.Test.YtabfapijgfjflaaGreatMQBx
import Derived.Test.YtabfapijgfjflaaGreatMQBy
import Derived.Test.YtabfapijgfjflaaGreatMQBv
import Derived.Test.YtabfapijgfjflaaGreatMQBi
import Derived.Test.YtabfapijgfjflaaGreatMQBe
import Derived.Test.YtabfapijgfjflaaGreatMUme
import Derived.Test.YtabfapijgfjflaaGreatMQBq
import Derived.Test.YtabfapijgfjflaaGreatMQBs
import Derived.Test.YtabfapijgfjflaaGreatMBld
import Derived.OwnWalk
import Derived.Test.YtabfapijgfjflaaGreatMAl
set_option linter.unusedVariables false
set_option linter.unusedSimpArgs false
set_option maxRecDepth 100000
set_option maxHeartbeats 8000000
namespace Go.Proofs.YtabfapijgfjflaaGreat
open Go.RowKit
def PwI(z:Int)(n:Int)(w:World)(p i:Value)(wr:World):Prop:=∃k:Nat,(k:Int)<=n/\i= .int .i64 k/\p= .int .i64 (abz z k)/\w=wr
theorem aql(z n:Int)(h1:1<=z)(h2:z<=4)(h0:0<=n)(hn:n<=4)(w:World):
 Calls Tryz.prog 40 #[.int .i64 z,.int .i64 n] w fun e w'=>e= .returned (.int .i64 (abz z n.toNat))/\Below w.heap.size w w':=by
 go_enter Tryz.func40,Tryz.ntmps40;go_wp2
 go_loopw [5,6] (fun p i wr=>PwI z n w p i wr) (fun _ i _=>n.toNat-(intOf i).toNat)
 case atStart=>exact⟨0,by omega,rfl,rfl,rfl⟩
 case round=>
  obtain⟨k,hk,rfl,rfl,rfl⟩:=hrel;by_cases hlt:(k:Int)<n
  ·have hw:IntKind.i64.wrap (abz z k*z)=abz z (k+1):=by
    have:=agD (n:=k+1) h1 h2 (by omega);exact IntWalk.i64_in _ (by rw[show abz z k*z=abz z (k+1) from rfl];omega)
   go_wp2
   go_roundw
   case rel=>exact⟨k+1,by omega,by go_num,rfl,rfl⟩
   case measure=>simp[intOf];omega
  ·obtain rfl:(k:Int)=n:=by omega
   go_wp2;go_ret;exact⟨by simp,ag _ _⟩
theorem asu{g:Sg}{k:Nat}{x:Sy}(hr:aan g=true)(hx:g[k]? =some x):0<=x.ar:=by
 have hb:acT x=false:=by
  cases h:acT x with
  |false=>rfl
  |true=>rw[ah7 hx h] at hr;cases hr
 simp only[acT,Bool.or_eq_false_iff,decide_eq_false_iff_not] at hb;omega
theorem aoq{g:Sg}(hr:aan g=true):g[0]? =some sy0:=by
 unfold aan at hr;simp only[Bool.and_eq_true,decide_eq_true_eq] at hr;exact hr.1.1.2
theorem asv(z:Int)(x:Sy):(x.tr=true/\ai6 z x=2)\/(x.tr=false/\ai6 z x=z):=by
 unfold ai6;cases x.tr<;>simp
theorem aiw{g:Sg}{m:Ip}:abg g m=true↔aan g=true/\1<=m.size/\m.size<=4/\m.rows.length=g.length/\(∀i,i<g.length->rowAt g m i=true)/\akp m.rows=1:=by
 unfold abg;simp only[Bool.and_eq_true,decide_eq_true_eq,List.all_eq_true,List.mem_range];constructor
 ·rintro⟨⟨⟨⟨⟨h1,h2⟩,h3⟩,h4⟩,h5⟩,h6⟩;exact⟨h1,h2,h3,h4,h5,h6⟩
 ·rintro⟨h1,h2,h3,h4,h5,h6⟩;exact⟨⟨⟨⟨⟨h1,h2⟩,h3⟩,h4⟩,h5⟩,h6⟩
theorem abD{g:Sg}{m:Ip}(h:¬(aan g=true/\1<=m.size/\m.size<=4/\m.rows.length=g.length/\(∀i,i<g.length->rowAt g m i=true)/\akp m.rows=1)):abg g m=false:=by
 rw[←aiw] at h;simpa using h
theorem akX{g:Sg}{m:Ip}{i:Nat}{x:Sy}{r:List Int}(hx:g[i]? =some x)(hr:m.rows[i]? =some r):rowAt g m i=true↔x.ar<=4/\(r.length:Int)=abz m.size x.ar.toNat/\∀k∈r,0<=k/\k<ai6 m.size x:=by
 unfold rowAt;rw[hx,hr];simp only[atY,Bool.and_eq_true,decide_eq_true_eq,List.all_eq_true];constructor
 ·rintro⟨⟨h1,h2⟩,h3⟩;exact⟨h1,h2,h3⟩
 ·rintro⟨h1,h2,h3⟩;exact⟨⟨h1,h2⟩,h3⟩
def WrI(g:Sg)(m:Ip)(w:World)(i:Value)(wr:World):Prop:=∃k:Nat,k<=g.length/\i= .int .i64 k/\(∀j,j<k->rowAt g m j=true)/\Below w.heap.size w wr
def WrJ(mst:Int)(r:List Int)(w:World)(i:Value)(wr:World):Prop:=∃k:Nat,k<=r.length/\i= .int .i64 k/\(∀(j:Nat) (z:Int),j<k->r[j]? =some z->0<=z/\z<mst)/\Below w.heap.size w wr
theorem ahE(g:Sg)(m:Ip)(aM:Nat)(ga:Option Addr)(gc:Nat)(ma:Option Addr)(mc:Nat)(w:World)(hn:aM<=w.heap.size)(hG:aaX aM w g ga gc)(hM:agB aM w m.rows ma mc):
 Calls Tryz.prog 15 #[.slice ga g.length gc,ipV m ma mc] w fun e w'=>e= .returned (.bool (abg g m))/\Below w.heap.size w w':=by
 have hlg:g.length<=gc/\gc<=maxLen:=⟨hG.1,hG.2.1⟩;unfold maxLen at hlg;obtain⟨hg1,hg2⟩:=hlg;have d0:=(((aai.below (ag _ w)).and (adb (hM.mono hn))).and (acS (hG.mono hn))).pushI (ag _ _) m ma mc;have D:=ae d0;clear d0 hM hG;go_enter Tryz.func15,Tryz.ntmps15
 go_wp2_with fail
 generalize w.alloc (ipO m ma mc)=w1 at D ⊢;generalize hb0:w.heap.size=b0 at D ⊢;have HB0:=ae hb0;clear hb0;refine(ad7 g w1.heap.size ga gc w1 (af _) D.out.now.2.1).mono ?_;rintro e w2 ⟨rfl,hb⟩;have D2:=ae (D.out.mv hb);clear hb D;have HQ:=ae D2.out.now.2.2.2;by_cases q0:aan g=true
 case neg=>
  have HE:=ae (abD (g:=g) (m:=m) fun h=>q0 h.1);rw[show aan g=false from by simpa using q0];go_wp2;go_ret;exact⟨by rw[HE.out];rfl,by rw[HB0.out];exact HQ.out⟩
 have HR:=ae q0;rw[q0];clear q0;obtain⟨⟨i0,i1⟩,_⟩:=D2.out.now;by_cases q1:1<=m.size
 case neg=>
  have HE:=ae (abD (g:=g) (m:=m) fun h=>q1 h.2.1);go_wp2;go_ret;exact⟨by rw[HE.out];rfl,by rw[HB0.out];exact HQ.out⟩
 by_cases q2:m.size<=4
 case neg=>
  have HE:=ae (abD (g:=g) (m:=m) fun h=>q2 h.2.2.1);go_wp2;go_ret;exact⟨by rw[HE.out];rfl,by rw[HB0.out];exact HQ.out⟩
 by_cases q3:m.rows.length=g.length
 case neg=>
  have HE:=ae (abD (g:=g) (m:=m) fun h=>q3 h.2.2.2.1);have q3':((m.rows.length:Int) != (g.length:Int))=true:=by simp;omega
  go_wp2;go_ret;exact⟨by rw[HE.out];rfl,by rw[HB0.out];exact HQ.out⟩
 have q3':((m.rows.length:Int) != (g.length:Int))=false:=by simp[q3]
 have H3:=ae q3;clear q3;go_wp2;clear i0 i1 q3'
 go_loopw [5,6,7] (fun i _ _ wr=>WrI g m w2 i wr) (fun i _ _ _=>g.length-(intOf i).toNat)
 case atStart=>exact⟨0,Nat.zero_le _,rfl,fun j hj=>by omega,ag _ _⟩
 case round=>
  obtain⟨k,hk,rfl,adn,hB⟩:=hrel;have HA:=ae adn;have HB:=ae hB;have hbz:=hB.size;have D3:=ae (D2.out.mv hB);have HQ3:=ae D3.out.now.2.2.2;obtain⟨⟨i0,i1⟩,hsg,hrs,_⟩:=D3.out.now;clear adn hB;by_cases hlt:k<g.length
  ·obtain⟨b,o,x,rfl,hbn,hs,hxw,hc0,hc1,hc2,hc3⟩:=hsg.elem hlt;obtain⟨rb,ro,r,ra,rc,rfl,hrb,hrr,hrc,hri⟩:=hrs.elem (i:=k) (by rw[H3.out];exact hlt);have hk0:(0:Int)<=(k:Int):=aw _;have hk1:(k:Int)<(g.length:Int):=by omega
   have hk2:(k:Int)<(m.rows.length:Int):=by have:=H3.out;omega
   have HX:=ae (akX hs hrr);have har:=asu HR.out hs;have HRI:=ae hri;obtain⟨wo,hwo⟩:∃wo,wr=wo:=⟨_,rfl⟩;subst hwo;have hbw:b<wr.heap.size:=by omega
   clear hs hrr hri hxw hc0 hc2 hsg hrs
   rcases asv m.size x with⟨htr,hm⟩|⟨htr,hm⟩
   all_goals
    rw[htr] at hc3;have HM:=ae hm;clear hm htr;by_cases q4:4<x.ar
    ·have HE:=ae (abD (g:=g) (m:=m) fun h=>by have:=(HX.out.1 (h.2.2.2.2.1 k hlt)).1;omega);have f1:=fun d os=>cell_regrown hc1 d os;go_wp2;refine aa2 (by kernel_rfl) (by kernel_rfl) ?_
     repeat (first
      |(refine WQ.skip (by rfl) ?_;simp only[Act.put,List.setIfInBounds_toArray,List.set_cons_succ,List.set_cons_zero])
      |(apply WQ.two (by rfl);(intro w' hw';obtain⟨pq,rfl⟩:=hw';go_simp;first|exact rfl);simp only[Act.put,List.setIfInBounds_toArray,List.set_cons_succ,List.set_cons_zero]))
     refine WQ.nil ?_;intro _ hw';obtain⟨⟨dq,osq⟩,hw''⟩:=hw';subst hw'';go_wp2;go_ret;exact⟨by rw[HE.out];rfl,by rw[HB0.out];exact HQ3.out.trans ((below_regrown wr dq osq).mono (by have:=HQ3.out.size;have:=HB0.out;omega))⟩
    ·have f1:=fun d os=>cell_regrown hc1 d os;have f2:=fun d os=>cell_regrown i0 d os;have f3:=fun d os=>cell_regrown i1 d os;have f4:=fun d os=>cell_regrown hrc d os;have q4':decide (4<x.ar)=false:=decide_eq_false q4;have PW:=ae (fun(W:World)=>aql m.size x.ar q1 q2 har (by omega) W);by_cases q5:(r.length:Int)=abz m.size x.ar.toNat
     case neg=>
      have HE:=ae (abD (g:=g) (m:=m) fun h=>by have:=(HX.out.1 (h.2.2.2.2.1 k hlt)).2.1;omega);have q5':((r.length:Int) != abz m.size x.ar.toNat)=true:=by simpa using q5
      clear q5;go_wp2;refine aa2 (by kernel_rfl) (by kernel_rfl) ?_
      repeat (first
       |(refine WQ.skip (by rfl) ?_;simp only[Act.put,List.setIfInBounds_toArray,List.set_cons_succ,List.set_cons_zero])
       |(apply WQ.two (by rfl);(intro w' hw';obtain⟨pq,rfl⟩:=hw';go_simp;first|(with_reducible exact Calls.regrown_of (PW.out _))|exact rfl);simp only[Act.put,List.setIfInBounds_toArray,List.set_cons_succ,List.set_cons_zero]))
      refine WQ.nil ?_;intro _ hw';obtain⟨⟨dq,osq⟩,hw''⟩:=hw';subst hw'';go_wp2;go_ret;exact⟨by rw[HE.out];rfl,by rw[HB0.out];exact HQ3.out.trans ((below_regrown wr dq osq).mono (by have:=HQ3.out.size;have:=HB0.out;omega))⟩
     have H5:=ae q5;have q5':((r.length:Int) != abz m.size x.ar.toNat)=false:=by simpa using q5
     clear q5;go_wp2;refine aa2 (by kernel_rfl) (by kernel_rfl) ?_
     repeat (first
      |(refine WQ.skip (by rfl) ?_;simp only[Act.put,List.setIfInBounds_toArray,List.set_cons_succ,List.set_cons_zero])
      |(apply WQ.two (by rfl);(intro w' hw';obtain⟨pq,rfl⟩:=hw';go_simp;first|(with_reducible exact Calls.regrown_of (PW.out _))|exact rfl);simp only[Act.put,List.setIfInBounds_toArray,List.set_cons_succ,List.set_cons_zero]))
     refine WQ.nil ?_;intro _ hw';obtain⟨⟨dq,osq⟩,hw''⟩:=hw';subst hw'';have hb5:=below_regrown wr dq osq;clear f1 f2 f3 f4 q5' PW;dsimp only;generalize Go.Sort.grow (redrawn wr dq) osq=W5 at hb5 ⊢;have D5:=ae (D3.out.mv hb5);have hrl:(r.length:Int)<=256:=by have:=agD (n:=x.ar.toNat) q1 q2 (by omega);have:=H5.out;omega
     have hz5:=hb5.size;have HB5:=ae hb5;have HRC:=ae hrc;clear hb5 i0 i1 hc1 hc3 hrc;go_wp2
     go_loopw [7] (fun i wq=>WrJ (ai6 m.size x) r W5 i wq) (fun i _=>r.length-(intOf i).toNat)
     case atStart=>exact⟨0,Nat.zero_le _,rfl,fun j z hj=>by omega,ag _ _⟩
     case round=>
      obtain⟨k2,hk3,rfl,hall2,hB6⟩:=hrel;have HA2:=ae hall2;have hz6:=hB6.size;have hB6':=HB5.out.trans (hB6.mono hz5);have hrc:=(hB6'.cell (p:=⟨rb,ro+k,none⟩) (by omega)).trans HRC.out;have HB6:=ae (HB.out.trans (hB6'.mono hbz));have HBJ:=ae hB6;have D6:=ae (D5.out.mv hB6);have HQ6:=ae D6.out.now.2.2.2;obtain⟨⟨i0,i1⟩,_⟩:=D6.out.now;have hri:=HRI.out.below hB6';clear hall2 hB6 hB6';by_cases hlt2:k2<r.length
      ·obtain⟨vb,vo,z,rfl,hvb,hzz,hcz⟩:=hri.elem hlt2;have HZ:=ae hzz;have hk4:(0:Int)<=(k2:Int):=aw _;have hk5:(k2:Int)<(r.length:Int):=by omega
       clear hzz hri;by_cases q6:0<=z
       case neg=>
        have HE:=ae (abD (g:=g) (m:=m) fun h=>by have:=((HX.out.1 (h.2.2.2.2.1 k hlt)).2.2 z (ak HZ.out)).1;omega);go_wp2;go_ret;exact⟨by rw[HE.out];rfl,by rw[HB0.out];exact HQ6.out⟩
       by_cases q7:z<ai6 m.size x
       ·have HL:=ae q7;rw[HM.out] at q7;go_wp2
        go_roundw
        case rel=>exact⟨k2+1,by omega,by go_num,fun j y hj hy=>by
         by_cases e:j<k2
         ·exact HA2.out j y e hy
         ·obtain rfl:j=k2:=by omega
          rw[HZ.out] at hy;injection hy with hy
          subst hy;exact⟨q6,HL.out⟩,HBJ.out⟩
        case measure=>simp[intOf];omega
       ·have HE:=ae (abD (g:=g) (m:=m) fun h=>by have:=((HX.out.1 (h.2.2.2.2.1 k hlt)).2.2 z (ak HZ.out)).2;omega);rw[HM.out] at q7;go_wp2;go_ret;exact⟨by rw[HE.out];rfl,by rw[HB0.out];exact HQ6.out⟩
      ·obtain rfl:k2=r.length:=by omega
       have HK:=ae (show rowAt g m k=true from HX.out.2 ⟨by omega,H5.out,fun y hy=>by
        obtain⟨j,hj⟩:=au hy;exact HA2.out j y (ah.1 hj).1 hj⟩)
       clear hri;go_wp2
       go_roundw
       case rel=>exact⟨k+1,by omega,by go_num,fun j hj=>by
        by_cases e:j<k
        ·exact HA.out j e
        ·obtain rfl:j=k:=by omega
         exact HK.out,HB6.out⟩
       case measure=>simp[intOf];omega
  ·obtain rfl:k=g.length:=by omega
   have h0:=aoq HR.out;have hg0:0<g.length:=(ah.1 h0).1;obtain⟨rb,ro,r,ra,rc,rfl,hrb,hrr,hrc,hri⟩:=hrs.elem (i:=0) (by rw[H3.out];exact hg0);have hr1:=((akX h0 hrr).1 (HA.out 0 hg0)).2.1
   have hr2:r.length=1:=by
    have:abz m.size sy0.ar.toNat=1:=rfl;omega
   obtain⟨vb,vo,z,rfl,hvb,hzz,hcz⟩:=hri.elem (k:=0) (by omega)
   have HF:=ae (show abg g m=(z==1) from by
    have hf:akp m.rows=z:=by
     cases hm:m.rows with
     |nil=>rw[hm] at hrr;simp at hrr
     |cons u us=>
      rw[hm] at hrr;simp at hrr;subst hrr;cases u with
      |nil=>simp at hr2
      |cons y ys=>simp at hzz;subst hzz;rfl
    by_cases e:z=1
    ·rw[show(z==1)=true from by simpa using e];exact aiw.2 ⟨HR.out,q1,q2,H3.out,HA.out,by rw[hf];exact e⟩
    ·rw[show(z==1)=false from by simpa using e];exact abD fun h=>e (by rw[←hf];exact h.2.2.2.2.2))
   have hl0:(0:Int)<(m.rows.length:Int):=by have:=H3.out;omega
   have hr3:(r.length:Int)=1:=by omega
   rw[show ro+0=ro from rfl] at hrc;rw[show vo+0=vo from rfl] at hcz;rw[hr2] at hrc;clear h0 hrr hzz hri hr1 hsg hrs;go_wp2;go_ret;exact⟨by rw[HF.out];rfl,by rw[HB0.out];exact HQ3.out⟩
def WfI(m:Ip)(w:World)(n i:Value)(wr:World):Prop:=∃(k:Nat) (z:Int),k<=m.rows.length/\i= .int .i64 k/\n= .int .i64 z/\Below w.heap.size w wr
def awb(w:World)(e:Ending)(w':World):Prop:=∃b:Bool,e= .returned (.bool b)/\Below w.heap.size w w'
theorem akY(m:Ip)(aM:Nat)(ma:Option Addr)(mc:Nat)(w:World)(hn:aM<=w.heap.size)(hM:agB aM w m.rows ma mc):
 Calls Tryz.prog 14 #[ipV m ma mc] w (awb w):=by
 have hlc:m.rows.length<=mc/\mc<=maxLen:=⟨hM.1,hM.2.1⟩;unfold maxLen at hlc;obtain⟨hl1,hl2⟩:=hlc;have d0:=((aai.below (ag _ w)).and (adb (hM.mono hn))).pushI (ag _ _) m ma mc;have D:=ae d0;clear d0 hM;go_enter Tryz.func14,Tryz.ntmps14;go_wp2;generalize w.alloc (ipO m ma mc)=w1 at D ⊢;generalize hb0:w.heap.size=b0 at D ⊢;have HB0:=ae hb0;clear hb0
 go_loopw [3,4] (fun n i wr=>WfI m w1 n i wr) (fun _ i _=>m.rows.length-(intOf i).toNat)
 case atStart=>exact⟨0,0,Nat.zero_le _,rfl,rfl,ag _ _⟩
 case round=>
  obtain⟨k,z,hk,rfl,rfl,hB⟩:=hrel;have HB:=ae hB;have D2:=ae (D.out.mv hB);have HQ:=ae D2.out.now.2.2;obtain⟨⟨i0,i1⟩,hrs,_⟩:=D2.out.now;clear hB;by_cases hlt:k<m.rows.length
  ·obtain⟨rb,ro,x,ra,rc,rfl,hrb,hxs,hrc,hri⟩:=hrs.elem hlt;have hk0:(0:Int)<=(k:Int):=aw _;have hk1:(k:Int)<(m.rows.length:Int):=by omega
   clear hxs hri hrs;by_cases q:m.rows.length<=300
   ·by_cases q2:z<=3000
    ·go_wp2
     go_roundw
     case rel=>exact⟨k+1,_,by omega,by go_num,rfl,HB.out⟩
     case measure=>simp[intOf];omega
    ·go_wp2
     all_goals (go_ret;exact⟨_,rfl,HB0.out▸HQ.out⟩)
   ·go_wp2
    all_goals (go_ret;exact⟨_,rfl,HB0.out▸HQ.out⟩)
  ·obtain rfl:k=m.rows.length:=by omega
   clear hrs;by_cases q:m.rows.length<=300
   ·by_cases q2:z<=3000
    ·go_wp2
     all_goals (go_ret;exact⟨_,rfl,HB0.out▸HQ.out⟩)
    ·go_wp2
     all_goals (go_ret;exact⟨_,rfl,HB0.out▸HQ.out⟩)
   ·go_wp2
    all_goals (go_ret;exact⟨_,rfl,HB0.out▸HQ.out⟩)
theorem aaV.take{aM:Nat}{w:World}{P:List LV}{a:Option Addr}{c:Nat}(h:aaV aM w P a c)(k:Nat):aaV aM w (P.take k) a c:=by
 obtain⟨h1,h2,h3⟩:=h;refine⟨aE (by simp;omega) h1,h2,?_⟩
 rcases h3 with rfl|⟨b,o,h4,h5,h6⟩
 ·exact .inl (by simp)
 ·exact .inr ⟨b,o,h4,h5,fun j x hx=>h6 j x (by
   rw[List.getElem?_take] at hx;split at hx
   ·exact hx
   ·cases hx)⟩
theorem aal.mono{ok ok':Nat->Prop}{w:World}{U:List T}{xs:List Value}(h:aal ok w U xs)(hm:∀b,ok b->ok' b):aal ok' w U xs:=h.keep (fun _ _=>rfl) hm
theorem awc{b:Nat}{P:List LV}{X:World}(h:Cs b (aaf P) X)(hl:P.length<=maxLen)(hp:∀x∈P,aa1 X.heap.size X x):aaV X.heap.size X P (some ⟨b,0,none⟩) P.length:=by
 refine⟨af _,hl,.inr ⟨b,0,rfl,h.1,fun j x hx=>⟨?_,hp x (ak hx)⟩⟩⟩;obtain⟨g0,g1,g2,g3,g4⟩:=acG hx;rw[Nat.zero_add];exact⟨h.2 _ _ g0,h.2 _ _ g1,h.2 _ _ g2,h.2 _ _ g3,h.2 _ _ g4⟩
theorem aor(zs:List Int)(v:Int):v∈sorted zs↔v∈zs:=by simp[sorted]
theorem aqm{zs:List Int}(h:zs.Nodup):(sorted zs).Pairwise (· < ·):=by
 have h1:(sorted zs).Pairwise (fun x y=>decide (x<=y)=true):=List.pairwise_mergeSort (le:=fun x y=>decide (x<=y)) (by intro a b c;simp;omega) (by intro a b;simp;omega) zs;have h2:(sorted zs).Nodup:=(List.mergeSort_perm zs _).nodup_iff.2 h;have h3:=h1.and h2;exact h3.imp (fun{a b} ⟨h,hn⟩=>by have:=of_decide_eq_true h;omega)
mutual
def T.ext:T->T->Sb->Option Sb
 | .node h ps,t,M=>
   if h<0 then(if bnd M (-1-h) then(if ac4 (ofS M (-1-h)) t then some M else none) else some (M++[(-1-h,t)]))
   else if h=t.head/\ps.length=t.args.length then T.exts ps t.args M else none
def T.exts:List T->List T->Sb->Option Sb
 |[],_,M=>some M
 |_::_,[],M=>some M
 |p::ps,t::ts,M=>match T.ext p t M with|some M'=>T.exts ps ts M'|none=>none
end
open Go.Maps
end Go.Proofs.YtabfapijgfjflaaGreat
namespace Go.Proofs
open Go.RowKit Go.Maps Go.Sort Go.Shelf
end Go.Proofs
namespace Go.Proofs.YtabfapijgfjflaaGreat
open Go.RowKit Go.Maps Go.Sort Go.Shelf
end Go.Proofs.YtabfapijgfjflaaGreat
namespace Go.Proofs.YtabfapijgfjflaaGreat
open Go.RowKit Go.Maps
section
variable {P:Program} {w:World} {ops:Array Oper} {rest:List Oper} {o:Oper} {a:Act} {Q:Exit->Act->World->Prop}
end
end Go.Proofs.YtabfapijgfjflaaGreat
namespace Go.Proofs.YtabfapijgfjflaaGreat
open Go.RowKit
mutual
theorem akZ(ρ:Int->Int)(t:T)(hg:bad (T.subs 1 t)=false)(hb:∀h∈t.heads,h<0->0<=ρ (-1-h)/\ρ (-1-h)<=255):(t.sub (fun v=>vt (ρ v))).size=t.size/\(t.sub (fun v=>vt (ρ v))).depth=t.depth/\bad (T.subs 1 (t.sub (fun v=>vt (ρ v))))=false:=by
 match t with
 | .node h ts=>
   by_cases q:h<0
   ·have e1:(T.node h ts).sub (fun v=>vt (ρ v))=vt (ρ (-1-h)):=T.sub_neg (t:= .node h ts) q;have e2:ts=[]:=aaZ (t:= .node h ts) hg q;have h3:=hb h (by rw[T.heads_eq];simp[T.head]) q;rw[e1,e2];refine⟨by simp[vt,T.size,T.sizes],by simp[vt,T.depth,T.depths],(aam (afR h3.1 h3.2)).2.2⟩
   ·have e1:(T.node h ts).sub (fun v=>vt (ρ v))= .node h (ts.map (T.sub (fun v=>vt (ρ v)))):=T.sub_pos (t:= .node h ts) q;have hgs:∀s∈ts,bad (T.subs 1 s)=false:=fun s hs=>by obtain⟨i,hi⟩:=au hs;exact aaA (t:= .node h ts) hg hi
    have hPs:∀s∈ts,∀g∈s.heads,g<0->0<=ρ (-1-g)/\ρ (-1-g)<=255:=fun s hs g hg' hn=>by obtain⟨i,hi⟩:=au hs;exact hb g (agP (t:= .node h ts) hi hg') hn
    obtain⟨h1,h2,h3⟩:=aix ρ ts hgs hPs;have hok:=aaI hg;rw[e1];refine⟨by simp only[T.size];omega,by simp only[T.depth];omega,?_⟩;rw[af8,T.head_node,T.args_node,List.length_map,h3];have hok':okB h ts.length=true:=hok;rw[hok'];rfl
theorem aix(ρ:Int->Int)(ts:List T)(hg:∀s∈ts,bad (T.subs 1 s)=false)(hb:∀s∈ts,∀h∈s.heads,h<0->0<=ρ (-1-h)/\ρ (-1-h)<=255):T.sizes (ts.map (T.sub (fun v=>vt (ρ v))))=T.sizes ts/\T.depths (ts.map (T.sub (fun v=>vt (ρ v))))=T.depths ts/\bad (T.subss 2 (ts.map (T.sub (fun v=>vt (ρ v)))))=false:=by
 match ts with
 |[]=>exact⟨rfl,rfl,rfl⟩
 |t::ts=>
  obtain⟨a1,a2,a3⟩:=akZ ρ t (hg t (by simp)) (hb t (by simp));obtain⟨b1,b2,b3⟩:=aix ρ ts (fun s hs=>hg s (by simp[hs])) (fun s hs=>hb s (by simp[hs]));refine⟨by simp only[List.map_cons,T.sizes];omega,by simp only[List.map_cons,T.depths];omega,?_⟩;rw[List.map_cons,T.subss];unfold bad at a3 b3 ⊢;rw[List.any_append];have a3':=a3;rw[show(T.subs 1 (T.sub (fun v=>vt (ρ v)) t)).any (fun x=> !okB x.2.head x.2.args.length)=(T.subs 2 (T.sub (fun v=>vt (ρ v)) t)).any (fun x=> !okB x.2.head x.2.args.length) from acz 1 2 _] at a3';rw[a3',b3];rfl
end
theorem aiy:∀(L:List Int) (l:Int),L.Pairwise (· < ·)->(∀v∈L,l<=v/\v<=255)->l<=256->l+L.length<=256
 |[],l,_,_,h=>by simpa using h
 |v::L,l,hp,hb,h=>by
  rw[List.pairwise_cons] at hp;have h0:=hb v (by simp);have:=aiy L (v+1) hp.2 (fun u hu=>⟨by have:=hp.1 u hu;omega,(hb u (by simp[hu])).2⟩) (by omega);simp;omega
theorem aiz:∀(ts:List T) (acc:List Int),acc.Nodup->(T.rvs acc ts).Nodup
 |[],acc,h=>by rw[T.rvs];exact h
 |t::ts,acc,h=>by
  rw[T.rvs];refine aiz ts _ ?_
  have dd1:∀(xs acc:List Int),acc.Nodup->(dd acc xs).Nodup:=by
   intro xs
   induction xs with
   |nil=>intro acc h;exact h
   |cons v xs ih=>
    intro acc h;unfold dd;rw[List.foldl_cons];refine ih _ ?_;unfold aat;split
    ·exact h
    ·rename_i hc;rw[List.nodup_append];refine⟨h,by simp,fun a ha b hb=> ?_⟩;obtain rfl:=List.mem_singleton.1 hb;rintro rfl;exact hc (by simpa using ha)
  exact dd1 _ _ h
def auE(σ:Int->T):Prop:=∀v:Int,0<=v->v<=255->∃k:Int,0<=k/\k<=255/\σ v=vt k
theorem aqn{t:T}(hb:bad (T.subs 1 t)=false){h:Int}(hh:h∈t.heads)(hn:h<0):0<= -1-h/\ -1-h<=255:=
 agQ hb ((acg _ _).2 ⟨by rw[show-1-(-1-h)=h from by omega];exact hh,by omega⟩)
theorem awd{σ:Int->T}(hσ:auE σ){t:T}(hb:bad (T.subs 1 t)=false):t.sub σ=t.sub (fun v=>vt (-1-(σ v).head)):=by
 refine acu _ t (af _) hb fun h hh hn=> ?_;obtain⟨h0,h1⟩:=aqn hb hh hn;obtain⟨k,_,_,e⟩:=hσ _ h0 h1;show σ (-1-h)=vt (-1-(σ (-1-h)).head);rw[e,aaq,show-1-(-1-k)=k from by omega]
theorem aqo{σ:Int->T}(hσ:auE σ){t:T}(hc:t.check=0):(t.sub σ).check=0:=by
 obtain⟨c1,c2,c3⟩:=aam hc
 obtain⟨s1,s2,s3⟩:=akZ (fun v=> -1-(σ v).head) t c3 (fun h hh hn=>by
  obtain⟨h0,h1⟩:=aqn c3 hh hn;obtain⟨k,k0,k1,e⟩:=hσ _ h0 h1;show 0<= -1-(σ (-1-h)).head/\ -1-(σ (-1-h)).head<=255;rw[e,aaq];omega)
 rw[awd hσ c3];exact amv (by omega) (by omega) s3
theorem am9{g:Sg}{σ:Int->T}(hσ:auE σ){t:T}(hb:bad (T.subs 1 t)=false):aap g (t.sub σ).head=aap g t.head/\((t.sub σ).head=0↔t.head=0):=by
 by_cases h0:t.head<0
 ·obtain⟨v0,v1,_⟩:=aaT hb h0;obtain⟨k,k0,k1,e⟩:=hσ _ v0 v1;rw[T.sub_neg h0,e,aaq];refine⟨?_,by omega⟩;unfold aap;rw[show decide ((0:Int)<= -1-k)=false from decide_eq_false (by omega),show decide ((0:Int)<=t.head)=false from decide_eq_false (by omega)];rfl
 ·rw[T.sub_pos h0,T.head_node];exact⟨rfl,Iff.rfl⟩
theorem ana{g:Sg}{σ:Int->T}(hσ:auE σ):∀(N:Nat) (t:T),t.size<=N->bad (T.subs 1 t)=false->(aaL g t=true->aaL g (t.sub σ)=true)/\(adQ g t=false->adQ g (t.sub σ)=false):=by
 intro N
 induction N with
 |zero=>intro t ht;have:=T.size_pos t;omega
 |succ N ih=>
  intro t ht hb;by_cases h0:t.head<0
  ·obtain⟨v0,v1,_⟩:=aaT hb h0;obtain⟨k,k0,k1,e⟩:=hσ _ v0 v1;rw[T.sub_neg h0,e];refine⟨fun _=> ?_,fun _=> ?_⟩
   ·rw[aa4,aaq,decide_eq_true (show(-1-k:Int)<0 by omega)];rfl
   ·rw[abc,aaq];unfold aap;rw[decide_eq_false (show ¬(0:Int)<= -1-k by omega)];rfl
  ·have hs:∀s∈t.args,s.size<=N/\bad (T.subs 1 s)=false:=fun s hs=>by
    obtain⟨i,hi⟩:=au hs;exact⟨by have:=adu hs;omega,aaA hb hi⟩
   rw[T.sub_pos h0];refine⟨fun hf=> ?_,fun hp=> ?_⟩
   ·rw[aa4,T.head_node,T.args_node,decide_eq_false h0,Bool.false_or,List.length_map,abV];rw[aa4,decide_eq_false h0,Bool.false_or,abV,Bool.and_eq_true,List.all_eq_true] at hf;rw[Bool.and_eq_true,List.all_eq_true];refine⟨hf.1,fun y hy=> ?_⟩;obtain⟨s,hm,rfl⟩:=List.mem_map.1 hy;exact(ih s (hs s hm).1 (hs s hm).2).1 (hf.2 s hm)
   ·rw[abc,T.head_node,T.args_node,aaY];rw[abc,aaY,Bool.or_eq_false_iff,List.any_eq_false] at hp;rw[Bool.or_eq_false_iff,List.any_eq_false];refine⟨hp.1,fun y hy=> ?_⟩;obtain⟨s,hm,rfl⟩:=List.mem_map.1 hy;have:=(ih s (hs s hm).1 (hs s hm).2).2 (by simpa using hp.2 s hm);simpa using this
theorem aqp{g:Sg}{σ:Int->T}(hσ:auE σ){t:T}(h:aaH g t=0):aaH g (t.sub σ)=0:=by
 obtain⟨h1,h2,h3,h4⟩:=aaR h;have hb:=(aam h2).2.2;unfold aaH;rw[if_pos h1,if_pos (aqo hσ h2),if_pos ((ana hσ _ t (af _) hb).1 h3)];rw[if_neg];by_cases h0:t.head<0
 ·obtain⟨v0,v1,_⟩:=aaT hb h0;obtain⟨k,k0,k1,e⟩:=hσ _ v0 v1;rw[T.sub_neg h0,e];show ¬abu g []=true;simp[abu]
 ·rw[T.sub_pos h0,T.args_node,aaY];rw[aaY,List.any_eq_false] at h4;rw[Bool.not_eq_true,List.any_eq_false];intro y hy;obtain⟨s,hm,rfl⟩:=List.mem_map.1 hy;obtain⟨i,hi⟩:=au hm;have:=(ana (g:=g) hσ _ s (af _) (aaA hb hi)).2 (by simpa using h4 s hm);simpa using this
theorem auF{g:Sg}{σ:Int->T}(hσ:auE σ){l r:T}(h:abn g l r=0):abn g (l.sub σ) (r.sub σ)=0:=by
 obtain⟨h1,h2,h3⟩:=ai5 h;refine apg (aqp hσ h1) (aqp hσ h2) ?_;obtain⟨a1,a2⟩:=am9 (g:=g) hσ (adE h1);obtain⟨b1,b2⟩:=am9 (g:=g) hσ (adE h2);unfold ace at h3 ⊢;rw[a1,b1];split
 ·rename_i hp;rw[if_pos hp] at h3;split at h3
  ·rename_i h0;rw[if_pos (b2.2 h0)]
  ·cases h3
 ·rename_i hp;rw[if_neg hp] at h3;exact h3
theorem auG{c:List Lt3}(hb:abv (aad c)=false):(T.rvs [] (aad c)).length<=256:=by
 have:=aiy (sorted (T.rvs [] (aad c))) 0 (aqm (aiz _ [] List.nodup_nil)) (fun v hv=>alX hb ((aor _ _).1 hv)) (by omega);rw[abl] at this;omega
theorem auH{c:List Lt3}{v:Int}(hv:v∈T.rvs [] (aad c)):ofS (nuC c) v=vt (ix (T.rvs [] (aad c)) v):=by
 have:=ajh (T.rvs [] (aad c)) 0 v hv;simpa[nuC,au4,ix] using this
theorem atk:∀{V:List Int} {s:Nat} {v:Int},v∉V->ofS (V.mapIdx (fun i v=>(v,vt ((i+s:Nat):Int)))) v=vt v
 |[],s,v,_=>rfl
 |u::V,s,v,h=>by
  rw[List.mapIdx_cons];have e:u≠v:=fun e=>h (by rw[e];exact List.mem_cons_self ..);rw[show ofS ((u,vt ((0+s:Nat):Int))::V.mapIdx (fun i v=>(v,vt ((i+1+s:Nat):Int)))) v=ofS (V.mapIdx (fun i v=>(v,vt ((i+1+s:Nat):Int)))) v from by simp[ofS,e]]
  rw[show(fun(i:Nat) (v:Int)=>(v,vt ((i+1+s:Nat):Int)))=fun(i:Nat) (v:Int)=>(v,vt ((i+(s+1):Nat):Int)) from by
   funext i w;rw[show i+1+s=i+(s+1) from by omega]]
  exact atk fun hm=>h (aH _ hm)
theorem aqq{V:List Int}{v:Int}(h:v∈V):0<=ix V v/\ix V v<V.length:=by
 unfold ix;have:=List.idxOf_lt_length_of_mem h;omega
theorem awe{c:List Lt3}(hb:abv (aad c)=false):auE (ofS (nuC c)):=fun v h0 h1=>by
 by_cases hv:v∈T.rvs [] (aad c)
 ·have h2:=aqq hv;have h3:=auG hb;exact⟨_,h2.1,by omega,auH hv⟩
 ·refine⟨v,h0,h1,?_⟩;have:=atk (s:=0) hv;simpa[nuC,au4] using this
theorem ajH{g:Sg}{c:List Lt3}(h:aaN g c=0):abv (aad c)=false:=by
 unfold abv;rw[List.any_eq_false];intro t ht;obtain⟨x,hx,e⟩:=abk.1 ht;obtain⟨e1,e2⟩:=abq ((aba h).2.2 x hx)
 have:t.check=0:=by
  rcases e with rfl|rfl
  ·exact(aaR e1).2.1
  ·exact(aaR e2).2.1
 simp[this]
theorem anb{c:List Lt3}(hb:abv (aad c)=false):nmL c=c.map (Lt3.sub (ofS (nuC c))):=by
 unfold nmL;rw[hb,if_neg (by decide)]
theorem asw{g:Sg}{c:List Lt3}(h:aaN g c=0):aaN g (nmL c)=0:=by
 have hb:=ajH h;obtain⟨h1,h2,h3⟩:=aba h;rw[anb hb];refine ai7 h1 (by rw[List.length_map];exact h2) fun y hy=> ?_;obtain⟨x,hx,rfl⟩:=List.mem_map.1 hy;exact auF (awe hb) (h3 x hx)
theorem ag8{c:List Lt3}(hb:abv (aad c)=false){t:T}(ht:t∈aad c){h:Int}(hh:h∈t.heads)(hn:h<0): -1-h∈T.rvs [] (aad c):=by
 refine aji.2 (.inr ⟨t,ht,?_⟩);have: -1-h∈ajj t:=(acg _ _).2 ⟨by rw[show-1-(-1-h)=h from by omega];exact hh,by omega⟩;rw[T.rv_eq];exact this
theorem awf{V:List Int}{u v:Int}(hu:u∈V)(hv:v∈V)(e:ix V u=ix V v):u=v:=by
 unfold ix at e;have e':V.idxOf u=V.idxOf v:=by omega
 have h1:=List.getElem_idxOf (List.idxOf_lt_length_of_mem hu);have h2:=List.getElem_idxOf (List.idxOf_lt_length_of_mem hv);rw[←h1,←h2];simp only[e']
theorem auI{c:List Lt3}(hb:abv (aad c)=false)(hb2:abv (aad (nmL c))=false):nmL (nmL c)=nmL c:=by
 have hgd:∀s∈aad c,bad (T.subs 1 s)=false:=fun s hs=>(ach hb s hs).2
 have h1:aad (nmL c)=(aad c).map (T.sub fun v=>vt (ix (T.rvs [] (aad c)) v)):=by
  rw[anb hb,aih];refine List.map_congr_left fun t ht=> ?_;exact acu _ t (af _) (hgd t ht) fun h hh hn=>auH (ag8 hb ht hh hn)
 obtain⟨h2,_⟩:=T.nrms_ren (ix (T.rvs [] (aad c))) (fun v=>v∈T.rvs [] (aad c)) (fun u v hu hv e=>awf hu hv e) (fun v hv=>(aqq hv).1) (aad c) hgd (fun s hs h hh hn=>ag8 hb hs hh hn) [] (by simp);refine ajk ?_ ?_
 ·rw[apF _ hb2]
 ·rw[aeu hb2,aeu hb,←aeu hb,h1];have:=congrArg Prod.fst h2;rw[List.map_nil] at this;rw[this,←aeu hb,h1]
theorem atl{c:List Lt3}(hb:abv (aad c)=false){t:T}(ht:t∈aad c):(t.sub (ofS (nuC c))).sub (fun i=>vt ((T.rvs [] (aad c)).getD i.toNat 0))=t:=by
 rw[T.sub_sub];refine sub_self _ _ t (af _) (ach hb t ht).2 fun h hh hn=> ?_;have hv:=ag8 hb ht hh hn;show(ofS (nuC c) (-1-h)).sub _=_;rw[auH hv,adV (aqq hv).1]
 congr 1
 unfold ix;rw[Int.toNat_natCast,List.getD_eq_getElem?_getD,ai (List.idxOf_lt_length_of_mem hv),List.getElem_idxOf];rfl
theorem aeg{c:List Lt3}(hb:abv (aad c)=false){t u:T}(ht:t∈aad c)(hu:u∈aad c)(e:t.sub (ofS (nuC c))=u.sub (ofS (nuC c))):t=u:=by
 rw[←atl hb ht,←atl hb hu,e]
theorem aqr{c:List Lt3}(hb:abv (aad c)=false)(h:aeL c):aeL (nmL c):=by
 rw[anb hb];have hl:∀x∈c,x.l∈aad c/\x.r∈aad c:=fun x hx=>⟨abk.2 ⟨x,hx,.inl rfl⟩,abk.2 ⟨x,hx,.inr rfl⟩⟩;refine⟨fun i j x y hij hx hy=> ?_,fun y hy=> ?_⟩
 ·rw[List.getElem?_map,Option.map_eq_some_iff] at hx hy;obtain⟨x0,hx0,rfl⟩:=hx;obtain⟨y0,hy0,rfl⟩:=hy;have hd:=h.dif i j x0 y0 hij hx0 hy0;cases hs:acF (Lt3.sub (ofS (nuC c)) x0) (Lt3.sub (ofS (nuC c)) y0) with
  |false=>rfl
  |true=>
   have hxm:=hl x0 (ak hx0);have hym:=hl y0 (ak hy0);obtain⟨e1,e2⟩:=aeZ.1 hs
   have:acF x0 y0=true:=aeZ.2 ⟨e1,by
    rcases e2 with⟨e2,e3⟩|⟨e2,e3⟩
    ·exact .inl ⟨aeg hb hxm.1 hym.1 e2,aeg hb hxm.2 hym.2 e3⟩
    ·first
      |exact .inr ⟨aeg hb hxm.1 hym.2 e2,aeg hb hxm.2 hym.1 e3⟩
      |exact .inr ⟨aeg hb hxm.2 hym.1 e2,aeg hb hxm.1 hym.2 e3⟩⟩
   rw[this] at hd;cases hd
 ·obtain⟨x,hx,rfl⟩:=List.mem_map.1 hy;have hs:=h.say x hx;cases hv:ajf (Lt3.sub (ofS (nuC c)) x) with
  |false=>rfl
  |true=>
   unfold ajf at hv hs;rw[Bool.and_eq_true] at hv;have hv2:=(aeo _ _).1 hv.2;have:ac4 x.l x.r=true:=(aeo _ _).2 (aeg hb (hl x hx).1 (hl x hx).2 hv2);have hv1:x.neg=true:=hv.1;rw[hv1,this] at hs;cases hs
theorem ag9{g:Sg}{D n:List Lt3}{s:Sb}(h:adj g D s=some n):abv (aad n)=false/\nmL n=n/\tidy n=n/\n.length<=D.length:=by
 obtain⟨h1,h2,h3,rfl⟩:=aeA h;have hb:=ajH h3;refine⟨hb,auI h2 hb,apC (aqr h2 (auc _)),?_⟩;rw[anb h2,List.length_map];have:=afV (acL s D) (acL s D).length;rw[List.take_length] at this;rw[(agO h1).2.2,List.length_map] at this;rw[(agO h1).2.2];exact this
theorem aiA{g:Sg}{D:List Lt3}(hD:aaN g D=0):aaN g (tidy D)=0:=by
 obtain⟨h1,h2,h3⟩:=aba hD;refine ai7 h1 ?_ fun x hx=>h3 x (arW hx);have:=afV D D.length;rw[List.take_length] at this;omega
theorem aqs{g:Sg}{D:List Lt3}{s:Sb}(ha:acE s D=0)(hD:aaN g (acL s D)=0):adj g D s=some (nmL (tidy (acL s D))):=by
 have ht:=aiA hD;unfold adj;rw[if_pos ⟨ha,ajH ht,asw ht⟩]
theorem awg{s:Sb}{C:List Lt3}(hl:C.length<=32)(h:∀x∈C,ak3 s x=0):acE s C=0/\acL s C=C.map (ap3 s):=by
 have:acE s C=0:=by
  unfold acE;rw[if_neg (by omega)];exact apz.2 h
 exact⟨this,by unfold acL;rw[if_pos this]⟩
theorem aos{g:Sg}{C:List Lt3}{s:Sb}(i:Nat)(ha:acE s C=0)(hd:aaN g (acL s C)=0):acE s (C.eraseIdx i)=0/\aaN g (acL s (C.eraseIdx i))=0/\adj g (C.eraseIdx i) s=some (nmL (tidy (acL s (C.eraseIdx i)))):=by
 obtain⟨a1,a2,a3⟩:=agO ha;have hlen:=List.length_eraseIdx_le C i;obtain⟨b1,b2⟩:=awg (s:=s) (C:=C.eraseIdx i) (by omega) fun x hx=>a2 x (ab2 hx)
 have hr:aaN g (acL s (C.eraseIdx i))=0:=by
  obtain⟨h1,h2,h3⟩:=aba hd;rw[b2];refine ai7 h1 (by rw[List.length_map];omega) fun y hy=> ?_;obtain⟨x,hx,rfl⟩:=List.mem_map.1 hy;exact h3 _ (by rw[a3];exact List.mem_map.2 ⟨x,ab2 hx,rfl⟩)
 exact⟨b1,hr,aqs b1 hr⟩
theorem aqt{z:Int}(h0:0<=z)(h1:z<=255):z∈agU:=ajo.2 ⟨h0,h1⟩
theorem ak0(σ:Int->T)(l:List (T×T)):∀xs ys:List T,xs.length=ys.length->atf σ (xs.zip ys++l)=T.sizes (xs.map (T.sub σ))+atf σ l
 |[],[],_=>by simp[T.sizes]
 |a::xs,b::ys,h=>by
  have:=ak0 σ l xs ys (by simpa using h);simp only[List.zip_cons_cons,List.cons_append,atf,List.map_cons,T.sizes,this];omega
theorem asx{x y:T}(hx:bad (T.subs 1 x)=false)(hy:bad (T.subs 1 y)=false):∀(n k:Nat) (s:Sb) (l:List (T×T)) (F:List T),agZ s agU<=n->atf (ofS s) l<=k->RI x y s l F->(∀θ:Int->T,x.sub θ≠y.sub θ)\/∃m,abG (fun θ=>x.sub θ=y.sub θ) m:=by
 intro n
 induction n using Nat.strongRecOn with
 |_ n ihn=>
 intro k
 induction k using Nat.strongRecOn with
 |_ k ihk=>
 intro s l F hn hk h;cases l with
 |nil=>exact .inr ⟨s,h.done⟩
 |cons p l=>
  have hls:atf (ofS s) (p::l)=(p.1.sub (ofS s)).size+atf (ofS s) l:=rfl;have hpos:=T.size_pos (p.1.sub (ofS s));obtain⟨hg1,hg2⟩:=h.head_good;by_cases he:p.1.sub (ofS s)=p.2.sub (ofS s)
  ·obtain⟨F',h'⟩:=h.same he;exact ihk (atf (ofS s) l) (by omega) s l F' hn (af _) h'
  ·have bindc:∀a b:T,(a=p.1.sub (ofS s)/\b=p.2.sub (ofS s)\/a=p.2.sub (ofS s)/\b=p.1.sub (ofS s))->a.head<0->(b.head<0->a.head<b.head)->(∀θ:Int->T,x.sub θ≠y.sub θ)\/∃m,abG (fun θ=>x.sub θ=y.sub θ) m:=by
    intro a b hab ha ho
    have hne:a≠b:=by
     rcases hab with⟨rfl,rfl⟩|⟨rfl,rfl⟩
     ·exact he
     ·exact fun e=>he e.symm
    by_cases hin:a.head∈b.heads
    ·exact .inl (h.occurs hab ha hne hin)
    ·obtain⟨F',h',hbd,hun,r0,r1⟩:=h.bind hx hy hab ha hin ho;have h1:=amY (s:=s) (s':=aci s [(-1-a.head,b)] agU) (fun z hz=>by rw[hbd,hz,Bool.true_or]) hun (by rw[hbd];simp) agU (aqt r0 r1);exact ihn (agZ (aci s [(-1-a.head,b)] agU) agU) (by omega) _ _ l F' (af _) (af _) h'
   by_cases h1:(p.1.sub (ofS s)).head<0
   ·by_cases h2:(p.2.sub (ofS s)).head<0
    ·have hne:(p.1.sub (ofS s)).head≠(p.2.sub (ofS s)).head:=fun e=>he (by
      rw[(aaT hg1 h1).2.2,(aaT hg2 h2).2.2,e])
     rcases Int.lt_or_gt_of_ne hne with hlt|hgt
     ·exact bindc _ _ (.inl ⟨rfl,rfl⟩) h1 (fun _=>hlt)
     ·exact bindc _ _ (.inr ⟨rfl,rfl⟩) h2 (fun _=>hgt)
    ·exact bindc _ _ (.inl ⟨rfl,rfl⟩) h1 (fun h=>absurd h h2)
   ·by_cases h2:(p.2.sub (ofS s)).head<0
    ·exact bindc _ _ (.inr ⟨rfl,rfl⟩) h2 (fun h=>absurd h h1)
    ·by_cases hc:(p.1.sub (ofS s)).head=(p.2.sub (ofS s)).head
     ·by_cases hl:(p.1.sub (ofS s)).args.length=(p.2.sub (ofS s)).args.length
      ·obtain⟨F',h'⟩:=h.args hx hy h1 h2 hc hl;have hself:(p.1.sub (ofS s)).sub (ofS s)=p.1.sub (ofS s):=sub_self _ _ _ (af _) hg1 (fun g hg hn=>aax (h.tri.put_free (h.good p (by simp)).1 hg hn))
       have h3:(p.1.sub (ofS s)).args.map (T.sub (ofS s))=(p.1.sub (ofS s)).args:=by
        have h:=congrArg T.args hself;rwa[T.sub_pos (t:=p.1.sub (ofS s)) h1] at h
       have h4:=T.size_eq (p.1.sub (ofS s));have h5:=ak0 (ofS s) l _ _ hl;rw[h3] at h5;exact ihk _ (by omega) s _ F' hn (af _) h'
      ·exact .inl (h.clash h1 h2 (.inr hl))
     ·exact .inl (h.clash h1 h2 (.inl hc))
theorem aot(x y:T):∃(s:Sb) (b:Bool) (k:Int),adk x y s b k:=by
 by_cases hc:x.check=0/\y.check=0
 ·have hx:=(aam hc.1).2.2;have hy:=(aam hc.2).2.2
  rcases asx hx hy _ _ [] [(x,y)] [] (af _) (af _) (RI.start hx hy) with h|⟨m,hm⟩
  ·exact⟨[],false,0,.inr ⟨hc,.inl ⟨h,rfl,rfl,rfl⟩⟩⟩
  ·by_cases he:ae5 m=0
   ·exact⟨m,true,0,.inr ⟨hc,.inr ⟨m,hm,.inr ⟨he,rfl,rfl,rfl⟩⟩⟩⟩
   ·exact⟨[],false,ae5 m,.inr ⟨hc,.inr ⟨m,hm,.inl ⟨he,rfl,rfl,rfl⟩⟩⟩⟩
 ·exact⟨[],false,1,.inl ⟨by by_cases h:x.check=0;exact .inr (fun e=>hc ⟨h,e⟩);exact .inl h,rfl,rfl,rfl⟩⟩
theorem atm(t u:T):adk t u (uni t u).1 (uni t u).2.1 (uni t u).2.2:=by
 obtain⟨s,b,k,h⟩:=aot t u;exact akJ h
theorem afa{g:Sg}{C:List Lt3}{how:Int}{p:Gp}(hp:p∈eqG g C how++faG g C how):aaN g p.c=0:=by
 rcases aG.1 hp with h|h
 ·obtain⟨_,i,x,_,_,_,_,hk,_⟩:=aju h;exact(aeA hk).2.2.1
 ·obtain⟨_,_,i,k,a,b,x,z,_,_,_,_,_,_,_,_,_,_,hk⟩:=ajv h;exact(aeA hk).2.2.1
theorem made_holds{g:Sg}{m:Ip}(hm:abg g m=true){C:List Lt3}{how:Int}(hc:aaN g C=0)(hC:ab1 m C){p:Gp}(hp:p∈eqG g C how++faG g C how):ab1 m p.c:=by
 rcases aG.1 hp with h|h
 ·exact eqOf_holds hm hc (aju h).2 (fun x _=>atm x.l x.r) hC
 ·exact faOf_holds hm hc (ajv h).2.2 atm hC
theorem anc{m:Nat}:∀{c:List Lt3},(∀x∈c,x.l.size<=m/\x.r.size<=m)->T.sizes (aad c)<=c.length*(2*m)
 |[],_=>by simp[aad,T.sizes]
 |x::c,h=>by
  have h1:=h x (List.mem_cons_self ..);have h2:=anc (c:=c) fun y hy=>h y (aH _ hy);have e:aad (x::c)=x.l::x.r::aad c:=rfl;rw[e,T.sizes,T.sizes,List.length_cons,Nat.succ_mul];omega
theorem ack{g:Sg}{c:List Lt3}(h:aaN g c=0):c.length<=32/\T.sizes (aad c)<=100000/\(∀x∈c,abn g x.l x.r=0)/\∀x∈c,x.l.size<=400/\x.r.size<=400:=by
 obtain⟨_,h2,h3⟩:=aba h
 have h4:∀x∈c,x.l.size<=400/\x.r.size<=400:=fun x hx=>by
  obtain⟨e1,e2⟩:=abq (h3 x hx);exact⟨(aam (aaR e1).2.1).1,(aam (aaR e2).2.1).1⟩
 have h5:=anc h4;refine⟨h2,?_,h3,h4⟩;have h6:c.length*(2*400)<=32*(2*400):=Nat.mul_le_mul_right _ h2;omega
end Go.Proofs.YtabfapijgfjflaaGreat
