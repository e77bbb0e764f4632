import Derived.Test.YtabfapijgfjflaaGreatMQBi
import Derived.Test.YtabfapijgfjflaaGreatMQBg
import Derived.Test.YtabfapijgfjflaaGreatMQBd
import Derived.Test.YtabfapijgfjflaaGreatMAl
set_option linter.unusedVariables false
set_option linter.unusedSimpArgs false
set_option maxRecDepth 100000
set_option maxHeartbeats 4000000
namespace Go.Proofs.YtabfapijgfjflaaGreat
open Go.RowKit Go.Maps
def ab(S:Sds)(a b:T):Sds:=pl false (pl true S a.hds) b.hds
theorem akj(g:Sg)(hr:aan g=true)(t u:T)(hft:aaL g t=true)(hbt:bad (T.subs 1 t)=false)(hfu:aaL g u=true)(hbu:bad (T.subs 1 u)=false)(S:Sds)(hlen:agw S+t.size+u.size<=1000000)
 (aM:Nat) (ga:Option Addr) (gc:Nat) (a:Option Addr) (c:Nat) (a':Option Addr) (c' Bs M:Nat) (w:World) (hnB:aM<=Bs) (hnM:aM<=M) (hn:aM<=w.heap.size) (hG:aaX aM w g ga gc) (hwt:(Lit.int .i64 t.head).wf=true) (hwu:(Lit.int .i64 u.head).wf=true) (hA:aab aM w t.args a c) (hA':aab aM w u.args a' c') (hS:Scl w Bs M g ga gc S):
 Calls Tryz.prog 236 #[.pointer (some ⟨Bs,0,none⟩),tm t.head a t.args.length c,tm u.head a' u.args.length c'] w (as4 Bs M g ga gc (ab S t u) w):=by
 have hBl:=hS.lt;have hMl:=hS.map.lt;obtain⟨W1,hW1⟩:∃W1,w.alloc (aaa t.head a t.args.length c)=W1:=⟨_,rfl⟩;have hs1:W1.heap.size=w.heap.size+1:=by rw[←hW1];simp
 have hF1:Below w.heap.size w W1:=by rw[←hW1];exact(ag _ w).alloc (af _) _
 have L1:aai (fun X=>Vc w.heap.size t.head a t.args.length c X) W1:=by rw[←hW1];exact aaP w _ _ _ _
 obtain⟨W2,hW2⟩:∃W2,W1.alloc (aaa u.head a' u.args.length c')=W2:=⟨_,rfl⟩;have hs2:W2.heap.size=w.heap.size+2:=by rw[←hW2];simp;omega
 have hF2:Below w.heap.size w W2:=by rw[←hW2];exact hF1.alloc (by omega) _
 have L2:aai (fun X=>Vc W1.heap.size u.head a' u.args.length c' X) W2:=by rw[←hW2];exact aaP W1 _ _ _ _
 obtain⟨hv0,hv1⟩:=(L1.mv (by rw[←hW2];exact(ag _ W1).alloc (af _) _):aai (fun X=>Vc w.heap.size t.head a t.args.length c X) W2).now;obtain⟨hu0,hu1⟩:=L2.now;rw[hs1] at hu0 hu1;have hS2:=hS.later hF2;have P1:=aki g hr true t.size t (af _) hft hbt S (by omega) aM ga gc a c Bs M W2 hnB hnM (by omega) (hG.below (hF2.mono hn)) hwt (hA.below (hF2.mono hn)) hS2;have hl2:agw (pl true S t.hds)+u.size<=1000000:=by rw[adq,T.hds_length];omega
 have P2:=fun(W:World) (hW:Below aM W2 W) (hz:W2.heap.size<=W.heap.size) (hSW:Scl W Bs M g ga gc (pl true S t.hds))=>
  aki g hr false u.size u (af _) hfu hbu (pl true S t.hds) hl2 aM ga gc a' c' Bs M W hnB hnM (by omega) (hG.below ((hF2.mono hn).trans hW)) hwu (hA'.below ((hF2.mono hn).trans hW)) hSW
 have P1:=ae P1;have P2:=ae P2;have HF2:=ae hF2;have hbB:w.heap.size+1≠Bs:=by omega
 have hbM:w.heap.size+1≠M:=by omega
 clear hG hA hA' hS hS2 hF1 L1 L2 hF2;go_enter Tryz.func236,Tryz.ntmps236
 go_wp2_with fail
 refine P1.out.mono ?_;rintro e w3 ⟨rfl,hS3,hF3⟩;have hb3:Below aM W2 w3:=hF3.below hnB hnM (by omega);have hu0':w3.cell? ⟨w.heap.size+1,0,none⟩=some (.int .i64 u.head):=(hF3.cell (by omega) hbB hbM).trans hu0;have hu1':w3.cell? ⟨w.heap.size+1,1,none⟩=some (.slice a' u.args.length c'):=(hF3.cell (by omega) hbB hbM).trans hu1;have Q2:=ae (P2.out w3 hb3 hF3.size hS3);have HF3:=ae ((Sfr.of_below HF2.out).trans hF3);clear hS3 hF3 hb3
 go_wp2_with fail
 refine Q2.out.mono ?_;rintro e w4 ⟨rfl,hS4,hF4⟩;have HS4:=ae hS4;have HF4:=ae (HF3.out.trans hF4);clear hS4 hF4;go_wp2;refine bodyPost_end (v:= .tuple #[]) (by simp[results,Tryz.results236,go_sem]) rfl ?_;exact⟨rfl,HS4.out,HF4.out⟩
def byH(a b:T):Int:=if a.head<0\/b.head<0 then 2 else ord a.head b.head
theorem anM(t u:T)(a:Option Addr)(n c:Nat)(a':Option Addr)(n' c':Nat)(w:World):
 Calls Tryz.prog 238 #[tm t.head a n c,tm u.head a' n' c'] w fun e w'=>e= .returned (.int .i64 (byH t u))/\Below w.heap.size w w':=by
 have HF:=ae (show Below w.heap.size w ((w.alloc (aaa t.head a n c)).alloc (aaa u.head a' n' c')) from((ag _ w).alloc (af _) _).alloc (by simp) _);by_cases h1:t.head<0
 ·have HE:=ae (show byH t u=2 from by unfold byH;rw[if_pos (.inl h1)]);go_enter Tryz.func238,Tryz.ntmps238;go_wp2;go_ret;exact⟨by rw[HE.out];rfl,HF.out⟩
 ·by_cases h2:u.head<0
  ·have HE:=ae (show byH t u=2 from by unfold byH;rw[if_pos (.inr h2)]);go_enter Tryz.func238,Tryz.ntmps238;go_wp2;go_ret;exact⟨by rw[HE.out];rfl,HF.out⟩
  ·have HE:=ae (show byH t u=ord t.head u.head from by unfold byH;rw[if_neg (by omega)]);go_enter Tryz.func238,Tryz.ntmps238
   go_wp2_with (go_at_call 245;refine(abQ _ _ _).mono ?_;rintro e w' ⟨rfl,rfl⟩)
   go_ret;exact⟨by rw[HE.out];rfl,HF.out⟩
def akk(o n:Int):Bool:=(decide (o=1)&&decide (n<0))||(decide (o= -1)&&decide (0<n))
def abZ(S:Sds)(o:Int):Bool:=(S.1++S.2).any fun v=>decide (v<0)&&akk o (cS S v)
def aoz(g:Sg)(S:Sds)(o:Int):Int:=if wS g S=0 then o else ord (wS g S) 0
def aq5(g:Sg)(S:Sds)(o:Int):Int:=if abZ S (aoz g S o) then 2 else aoz g S o
theorem afp.entry{S:Sds}{D:DataW Unit}(h3:∀v,hwf v->Maps.has D (.int .i64 v)=decide (v<0/\(v∈S.1\/v∈S.2))/\(v<0->(v∈S.1\/v∈S.2)->∀z,D.atKey (.int .i64 v) z= .lit (.int .i64 (cS S v)))){x c:Int}(hx:(Lit.int .i64 x).wf=true)
 (hat:∀zd,D.atKey (.int .i64 x) zd= .lit (.int .i64 c)):x<0/\(x∈S.1\/x∈S.2)/\c=cS S x:=by
 obtain⟨q1,q2⟩:=h3 x (ahK hx);by_cases hm:x<0/\(x∈S.1\/x∈S.2)
 ·refine⟨hm.1,hm.2,?_⟩;have:=(hat .nil).symm.trans (q2 hm.1 hm.2 .nil);simpa using this
 ·have h1:=hat .nil;rw[Maps.atKey_of_not_has (by rw[q1];simp[hm])] at h1;cases h1
def ai1(S:Sds)(o:Int)(left:Lit->Bool):Prop:=∀v,v<0->(v∈S.1\/v∈S.2)->left (.int .i64 v)=false->akk o (cS S v)=false
theorem ai1.none{S:Sds}{o:Int}{left:Lit->Bool}(h:ai1 S o left)(hl:∀kl,left kl=false):abZ S o=false:=by
 unfold abZ;rw[List.any_eq_false];intro v hv;rw[aG] at hv;by_cases q:v<0
 ·rw[h v q hv (hl _)];simp
 ·simp[q]
theorem ai1.step{S:Sds}{o:Int}{left:Lit->Bool}(h:ai1 S o left){x:Int}(hx:akk o (cS S x)=false):ai1 S o (fun z=>left z&& !z.sameKey (.int .i64 x)):=by
 intro v hv hm hl;by_cases e:v=x
 ·rw[e];exact hx
 ·refine h v hv hm ?_;simpa[agb,e] using hl
theorem adD{S:Sds}{o x:Int}(h0:x<0)(hm:x∈S.1\/x∈S.2)(hx:akk o (cS S x)=true):abZ S o=true:=by
 unfold abZ;rw[List.any_eq_true];exact⟨x,aG.2 hm,by simp[h0,hx]⟩
theorem ahX(g:Sg)(hr:aan g=true)(S:Sds)(o:Int)(hlen:agw S<=1000000)(ga:Option Addr)(gc Bs M:Nat)(w:World)(hS:Scl w Bs M g ga gc S):
 Calls Tryz.prog 237 #[.pointer (some ⟨Bs,0,none⟩),.int .i64 o] w fun e w'=>e= .returned (.int .i64 (aq5 g S o))/\Below w.heap.size w w':=by
 have hwb:=amG hr (fun v hv=>(hS.ok v hv).1);have hMl:=hS.map.lt;obtain⟨c0,c1,c2,fz,⟨D,nn,hnn,hown,hD⟩,ok⟩:=hS;have HD:=ae hD;have HOK:=ae (fun v hv=>(ok v hv).2);clear hD ok;obtain⟨o',ho'⟩:∃o',aoz g S o=o':=⟨_,rfl⟩;obtain⟨x0,hx0⟩:∃x0,wS g S=x0:=⟨_,rfl⟩;rw[hx0] at c1;obtain⟨r,hr'⟩:∃r,aq5 g S o=r:=⟨_,rfl⟩;have HV:=ae (show r=if abZ S o' then 2 else o' from by rw[←hr'];unfold aq5;rw[ho']);rw[hr'];clear hr' hr;by_cases h0:x0=0
 ·have he:o=o':=by rw[←ho'];unfold aoz;rw[hx0,if_pos h0]
  rw[he];subst h0;clear ho' hx0 hwb he;go_enter Tryz.func237,Tryz.ntmps237
  go_wp2_with (first|(at_range;refine wpList_range_own _ rfl _ 168 rfl 3 3 ahu Tryz.underlying168 _ M _ D rfl hown ?_;intro w4 hrg0 hg0 hs0))
  go_frame
  clear hs0 hown c0 c1 c2 fz
  have HST:=ae (show ∃(left:Lit->Bool) (cnt:Nat),w4.ranges Tryz.prog 3 (plainElem Tryz.prog 3) M w.heap.size nn D left cnt/\ai1 S o' left/\Below w.heap.size w w4 from
   ⟨_,_,hrg0,fun v hv hm hl=>absurd hl (by rw[(HD.out v (HOK.out v hm)).1];simp[hv,hm]),(ag _ w).grown hg0 (af _) (fun k e=>by cases e)⟩)
  clear hrg0 hg0
  go_loopw [] (fun wr=>∃(left:Lit->Bool) (cnt:Nat),wr.ranges Tryz.prog 3 (plainElem Tryz.prog 3) M w.heap.size nn D left cnt/\ai1 S o' left/\Below w.heap.size w wr) (fun wr=>wr.rangeLeft M w.heap.size)
  case atStart=>exact HST.out
  case round=>
   clear HST;obtain⟨left,cnt,hrg,hNB,hB⟩:=hrel;have HB:=ae hB;have HNB:=ae hNB;clear hB hNB
   go_wp2_with (first|(at_next;refine wpList_next_ranges_ii _ rfl _ rfl 3 3 .i64 .i64 ahu Tryz.underlying3 Tryz.underlying3 M w.heap.size _ _ _ _ rfl hrg ?_ ?_))
   ·intro hc0 hl0;have HE:=ae (show r=o' from by rw[HV.out,HNB.out.none hl0];rfl);go_wp2;go_ret;exact⟨by rw[HE.out];rfl,HB.out⟩
   ·intro x cv w5 cnt1 hwx hwc hlx hat hrg1 hlt hg1 hs1 hen;have HB5:=ae (HB.out.grown hg1 HB.out.size (fun j hj=>by cases hj;exact af _));obtain⟨hx0,hxm,hcv⟩:=afp.entry HD.out hwx hat;have HRG:=ae hrg1;have HR0:=ae hrg;have HX:=ae (And.intro hx0 hxm);have HCV:=ae hcv;clear hrg1 hat hwx hwc hlx hrg hx0 hxm hcv;by_cases q1:o'=1
    ·by_cases q2:cv<0
     ·have HE:=ae (show r=2 from by rw[HV.out,adD HX.out.1 HX.out.2 (by rw[←HCV.out];simp[akk,q1,q2])];rfl);rw[q1];go_wp2;go_ret;exact⟨by rw[HE.out];rfl,HB5.out⟩
     ·have HN:=ae (HNB.out.step (x:=x) (by rw[←HCV.out];simp[akk,q1,q2]));rw[q1] at HN ⊢;go_wp2
      go_roundw
      case rel=>first|exact⟨_,⟨cnt1,HRG.out⟩,HN.out,HB5.out⟩|exact⟨_,cnt1,HRG.out,HN.out,HB5.out⟩
      case measure=>rw[HRG.out.left_eq,HR0.out.left_eq];exact hlt
    ·by_cases q3:o'= -1
     ·by_cases q2:0<cv
      ·have HE:=ae (show r=2 from by rw[HV.out,adD HX.out.1 HX.out.2 (by rw[←HCV.out];simp[akk,q3,q2])];rfl);rw[q3];go_wp2;go_ret;exact⟨by rw[HE.out];rfl,HB5.out⟩
      ·have HN:=ae (HNB.out.step (x:=x) (by rw[←HCV.out];simp[akk,q3,q2]));rw[q3] at HN ⊢;go_wp2
       go_roundw
       case rel=>first|exact⟨_,⟨cnt1,HRG.out⟩,HN.out,HB5.out⟩|exact⟨_,cnt1,HRG.out,HN.out,HB5.out⟩
       case measure=>rw[HRG.out.left_eq,HR0.out.left_eq];exact hlt
     ·have HN:=ae (HNB.out.step (x:=x) (by simp[akk,q1,q3]));go_wp2
      go_roundw
      case rel=>first|exact⟨_,⟨cnt1,HRG.out⟩,HN.out,HB5.out⟩|exact⟨_,cnt1,HRG.out,HN.out,HB5.out⟩
      case measure=>rw[HRG.out.left_eq,HR0.out.left_eq];exact hlt
 ·have he:ord x0 0=o':=by rw[←ho'];unfold aoz;rw[hx0,if_neg h0]
  have HC:=ae (fun(W:World)=>show Calls Tryz.prog 245 #[.int .i64 x0,.int .i64 0] W fun e w'=>e= .returned (.int .i64 o')/\W=w' from by rw[←he];exact(abQ x0 0 W).mono fun _ _ h=>⟨h.1,h.2.symm⟩);have h0':(x0 != 0)=true:=by simpa using h0
  clear ho' hx0 hwb he h0;go_enter Tryz.func237,Tryz.ntmps237
  go_wp2_with (first|(go_at_call 245;refine(HC.out _).mono ?_;rintro e w' ⟨rfl,rfl⟩)|(at_range;refine wpList_range_own _ rfl _ 168 rfl 3 3 ahu Tryz.underlying168 _ M _ D rfl hown ?_;intro w4 hrg0 hg0 hs0))
  go_frame
  clear hs0 hown c0 c1 c2 fz
  have HST:=ae (show ∃(left:Lit->Bool) (cnt:Nat),w4.ranges Tryz.prog 3 (plainElem Tryz.prog 3) M w.heap.size nn D left cnt/\ai1 S o' left/\Below w.heap.size w w4 from
   ⟨_,_,hrg0,fun v hv hm hl=>absurd hl (by rw[(HD.out v (HOK.out v hm)).1];simp[hv,hm]),(ag _ w).grown hg0 (af _) (fun k e=>by cases e)⟩)
  clear hrg0 hg0
  go_loopw [] (fun wr=>∃(left:Lit->Bool) (cnt:Nat),wr.ranges Tryz.prog 3 (plainElem Tryz.prog 3) M w.heap.size nn D left cnt/\ai1 S o' left/\Below w.heap.size w wr) (fun wr=>wr.rangeLeft M w.heap.size)
  case atStart=>exact HST.out
  case round=>
   clear HST;obtain⟨left,cnt,hrg,hNB,hB⟩:=hrel;have HB:=ae hB;have HNB:=ae hNB;clear hB hNB
   go_wp2_with (first|(at_next;refine wpList_next_ranges_ii _ rfl _ rfl 3 3 .i64 .i64 ahu Tryz.underlying3 Tryz.underlying3 M w.heap.size _ _ _ _ rfl hrg ?_ ?_))
   ·intro hc0 hl0;have HE:=ae (show r=o' from by rw[HV.out,HNB.out.none hl0];rfl);go_wp2;go_ret;exact⟨by rw[HE.out];rfl,HB.out⟩
   ·intro x cv w5 cnt1 hwx hwc hlx hat hrg1 hlt hg1 hs1 hen;have HB5:=ae (HB.out.grown hg1 HB.out.size (fun j hj=>by cases hj;exact af _));obtain⟨hx0,hxm,hcv⟩:=afp.entry HD.out hwx hat;have HRG:=ae hrg1;have HR0:=ae hrg;have HX:=ae (And.intro hx0 hxm);have HCV:=ae hcv;clear hrg1 hat hwx hwc hlx hrg hx0 hxm hcv;by_cases q1:o'=1
    ·by_cases q2:cv<0
     ·have HE:=ae (show r=2 from by rw[HV.out,adD HX.out.1 HX.out.2 (by rw[←HCV.out];simp[akk,q1,q2])];rfl);rw[q1];go_wp2;go_ret;exact⟨by rw[HE.out];rfl,HB5.out⟩
     ·have HN:=ae (HNB.out.step (x:=x) (by rw[←HCV.out];simp[akk,q1,q2]));rw[q1] at HN ⊢;go_wp2
      go_roundw
      case rel=>first|exact⟨_,⟨cnt1,HRG.out⟩,HN.out,HB5.out⟩|exact⟨_,cnt1,HRG.out,HN.out,HB5.out⟩
      case measure=>rw[HRG.out.left_eq,HR0.out.left_eq];exact hlt
    ·by_cases q3:o'= -1
     ·by_cases q2:0<cv
      ·have HE:=ae (show r=2 from by rw[HV.out,adD HX.out.1 HX.out.2 (by rw[←HCV.out];simp[akk,q3,q2])];rfl);rw[q3];go_wp2;go_ret;exact⟨by rw[HE.out];rfl,HB5.out⟩
      ·have HN:=ae (HNB.out.step (x:=x) (by rw[←HCV.out];simp[akk,q3,q2]));rw[q3] at HN ⊢;go_wp2
       go_roundw
       case rel=>first|exact⟨_,⟨cnt1,HRG.out⟩,HN.out,HB5.out⟩|exact⟨_,cnt1,HRG.out,HN.out,HB5.out⟩
       case measure=>rw[HRG.out.left_eq,HR0.out.left_eq];exact hlt
     ·have HN:=ae (HNB.out.step (x:=x) (by simp[akk,q1,q3]));go_wp2
      go_roundw
      case rel=>first|exact⟨_,⟨cnt1,HRG.out⟩,HN.out,HB5.out⟩|exact⟨_,cnt1,HRG.out,HN.out,HB5.out⟩
      case measure=>rw[HRG.out.left_eq,HR0.out.left_eq];exact hlt
end Go.Proofs.YtabfapijgfjflaaGreat
namespace Go.Proofs.YtabfapijgfjflaaGreat
open Go.RowKit
def agx(S:Sds)(A B:List Int):Prop:=∀v,cS S v=(A.count v:Nat)-(B.count v:Nat)
theorem anN(f:Int->Int){a b:List Int}(h:a.Perm b):adS f a=adS f b:=by
 induction h with
 |nil=>rfl
 |cons x _ ih=>simp[adS,ih]
 |swap x y l=>simp[adS];omega
 |trans _ _ h1 h2=>rw[h1,h2]
theorem agx.wS{S:Sds}{A B:List Int}(h:agx S A B)(g:Sg):wS g S=adS (wo g) A-adS (wo g) B:=by
 have hp:(S.1++B).Perm (A++S.2):=List.perm_iff_count.2 fun v=>by
  have:=h v;unfold cS at this;rw[List.count_append,List.count_append];omega
 have:=anN (wo g) hp;rw[acd,acd] at this;unfold Go.Proofs.YtabfapijgfjflaaGreat.wS;omega
theorem agx.nil(A:List Int):agx ([],[]) A A:=fun v=>by simp[cS]
theorem agx.put{S:Sds}{A B L R:List Int}(h:agx S A B):agx (pl false (pl true S L) R) (A++L) (B++R):=fun v=>by
 rw[apb,apb,h v,List.count_append,List.count_append];simp[sg];omega
theorem agx.bad1{S:Sds}{a b:T}(h:agx S a.hds b.hds):abZ S 1=false↔Oft a b:=by
 unfold abZ;rw[List.any_eq_false];simp only[aG,akk,Bool.and_eq_true,Bool.or_eq_true,decide_eq_true_eq,Bool.not_eq_true];constructor
 ·intro hh v hv;have e:=h v;by_cases q:cS S v<0
  ·exfalso;have hm:v∈S.2:=List.count_pos_iff.1 (by unfold cS at q;omega);exact hh v (.inr hm) ⟨hv,by simp;exact q⟩
  ·omega
 ·rintro hh v hv ⟨h0,h1|h1⟩
  ·have e:=h v;have:=hh v h0;omega
  ·omega
theorem agx.bad2{S:Sds}{a b:T}(h:agx S a.hds b.hds):abZ S (-1)=false↔Oft b a:=by
 unfold abZ;rw[List.any_eq_false];simp only[aG,akk,Bool.and_eq_true,Bool.or_eq_true,decide_eq_true_eq,Bool.not_eq_true];constructor
 ·intro hh v hv;have e:=h v;by_cases q:0<cS S v
  ·exfalso;have hm:v∈S.1:=List.count_pos_iff.1 (by unfold cS at q;omega);exact hh v (.inl hm) ⟨hv,by simp;exact q⟩
  ·omega
 ·rintro hh v hv ⟨h0,h1|h1⟩
  ·omega
  ·have e:=h v;have:=hh v h0;omega
theorem ad6{S:Sds}{o:Int}(h1:o≠1)(h2:o≠ -1):abZ S o=false:=by
 unfold abZ;rw[List.any_eq_false];intro v _;simp[akk,h1,h2]
def ByH(g:Sg)(a b:T):Prop:=0<=a.head/\0<=b.head/\(b.head<a.head\/(a.head=b.head/\gtL g a.args b.args=true))
theorem ahY{g:Sg}{S:Sds}{a b:T}{o:Int}(h:agx S a.hds b.hds)(hne:a≠b)(ho:o=1\/o= -1\/o=2)(h1:o=1↔ByH g a b)(h2:o= -1↔ByH g b a):aq5 g S o=abp g a b:=by
 have hw:=h.wS g;rw[aem,aem] at hw;have g1:gtK g a b=true↔Oft a b/\(wtT g b<wtT g a\/(wtT g a=wtT g b/\ByH g a b)):=agf;have g2:gtK g b a=true↔Oft b a/\(wtT g a<wtT g b\/(wtT g b=wtT g a/\ByH g b a)):=agf
 have hst:∀(x:Int),(x=1↔gtK g a b=true)->(x= -1↔gtK g b a=true)->(x=1\/x= -1\/x=2)->x=abp g a b:=by
  intro x k1 k2 k3
  rcases agh g a b with⟨_,e⟩|⟨e1,e2⟩|⟨e1,e2⟩|⟨e1,_,e2,e3⟩
  ·exact absurd e hne
  ·rw[e1];exact k1.2 e2
  ·rw[e1];exact k2.2 e2
  ·rw[e1]
   rcases k3 with k|k|k
   ·have:=k1.1 k;rw[e2] at this;cases this
   ·have:=k2.1 k;rw[e3] at this;cases this
   ·exact k
 have key:∀x,aoz g S o=x->(x=1\/x= -1\/x=2)->(x=1↔(wtT g b<wtT g a\/(wtT g a=wtT g b/\ByH g a b)))->(x= -1↔(wtT g a<wtT g b\/(wtT g b=wtT g a/\ByH g b a)))->aq5 g S o=abp g a b:=by
  intro x hx k3 k1 k2;have hv:aq5 g S o=if abZ S x then 2 else x:=by unfold aq5;rw[hx]
  apply hst
  ·rw[g1,←k1,hv,←h.bad1]
   rcases k3 with rfl|rfl|rfl
   ·cases abZ S 1<;>simp
   ·cases abZ S (-1)<;>simp
   ·rw[ad6 (by omega) (by omega)];simp
  ·rw[g2,←k2,hv,←h.bad2]
   rcases k3 with rfl|rfl|rfl
   ·cases abZ S 1<;>simp
   ·cases abZ S (-1)<;>simp
   ·rw[ad6 (by omega) (by omega)];simp
  ·rw[hv];split
   ·exact .inr (.inr rfl)
   ·exact k3
 by_cases e:wtT g a=wtT g b
 ·have hd:aoz g S o=o:=by unfold aoz;rw[if_pos (by omega)]
  refine key o hd ho ?_ ?_
  ·rw[h1];exact⟨fun q=> .inr ⟨e,q⟩,fun q=>by rcases q with q|q;omega;exact q.2⟩
  ·rw[h2];exact⟨fun q=> .inr ⟨e.symm,q⟩,fun q=>by rcases q with q|q;omega;exact q.2⟩
 ·have hd:aoz g S o=ord (wS g S) 0:=by unfold aoz;rw[if_neg (by omega)]
  by_cases e2:wtT g b<wtT g a
  ·have ho2:ord (wS g S) 0=1:=by unfold ord;rw[if_neg (by omega),if_pos (by omega)]
   rw[ho2] at hd;exact key 1 hd (.inl rfl) ⟨fun _=> .inl e2,fun _=>rfl⟩ ⟨fun q=>by omega,fun q=>by rcases q with q|q<;>omega⟩
  ·have ho2:ord (wS g S) 0= -1:=by unfold ord;rw[if_pos (by omega)]
   rw[ho2] at hd;exact key (-1) hd (.inr (.inl rfl)) ⟨fun q=>by omega,fun q=>by rcases q with q|q<;>omega⟩ ⟨fun _=> .inl (by omega),fun _=>rfl⟩
theorem apc(a b:T)(h:a.head≠b.head):byH a b=1\/byH a b= -1\/byH a b=2:=by
 unfold byH ord;split
 ·exact .inr (.inr rfl)
 ·split
  ·exact .inr (.inl rfl)
  ·split
   ·exact .inl rfl
   ·omega
theorem atT{g:Sg}{a b:T}(h:a.head≠b.head):byH a b=1↔ByH g a b:=by
 unfold byH ByH ord;split
 ·constructor
  ·intro q;omega
  ·intro q;omega
 ·split
  ·constructor
   ·intro q;omega
   ·rintro⟨_,_,q|q⟩
    ·omega
    ·exact absurd q.1 h
  ·split
   ·exact⟨fun _=>⟨by omega,by omega,.inl (by omega)⟩,fun _=>rfl⟩
   ·omega
theorem atU{g:Sg}{a b:T}(h:a.head≠b.head):byH a b= -1↔ByH g b a:=by
 unfold byH ByH ord;split
 ·constructor
  ·intro q;omega
  ·intro q;omega
 ·split
  ·exact⟨fun _=>⟨by omega,by omega,.inl (by omega)⟩,fun _=>rfl⟩
  ·split
   ·constructor
    ·intro q;omega
    ·rintro⟨_,_,q|q⟩
     ·omega
     ·exact absurd q.1.symm h
   ·omega
theorem anO(g:Sg):aq5 g ([],[]) 0=0:=by
 have:aoz g ([],[]) 0=0:=by unfold aoz wS;simp[adS]
 unfold aq5;rw[this,ad6 (by omega) (by omega)];rfl
def avn(Bs M:Nat)(g:Sg)(ga:Option Addr)(gc:Nat)(a b:T)(w:World)(e:Ending)(w':World):Prop:=
 e= .returned (.int .i64 (abp g a b))/\∃S,Scl w' Bs M g ga gc S/\Sfr Bs M w w'/\(a=b->S=([],[]))/\agx S a.hds b.hds/\agw S<=a.size+b.size
def CmI(Bs M:Nat)(g:Sg)(ga:Option Addr)(gc:Nat)(a b:T)(W2:World)(ov i:Value)(wr:World):Prop:=
 ∃(k:Nat) (o:Int) (S:Sds),k<=a.args.length/\i= .int .i64 (k:Nat)/\ov= .int .i64 o/\Scl wr Bs M g ga gc S/\Sfr Bs M W2 wr/\agx S (T.hdsL (a.args.take k)) (T.hdsL (b.args.take k))/\agw S<=T.sizes (a.args.take k)+T.sizes (b.args.take k)/\
  ((o=0/\S=([],[])/\a.args.take k=b.args.take k)\/(o≠0/\∃(j:Nat) (t u:T),a.args.take j=b.args.take j/\a.args[j]? =some t/\b.args[j]? =some u/\t≠u/\o=abp g t u))
theorem avo{g:Sg}{a b:T}{o:Int}{S:Sds}(hh:a.head=b.head)(hl:a.args.length=b.args.length)(hpos:a.args≠[]->0<=a.head)(hc:agx S (T.hdsL a.args) (T.hdsL b.args))
 (h:(o=0/\S=([],[])/\a.args=b.args)\/(o≠0/\∃(j:Nat) (t u:T),a.args.take j=b.args.take j/\a.args[j]? =some t/\b.args[j]? =some u/\t≠u/\o=abp g t u)):
 aq5 g S o=abp g a b/\(a=b->S=([],[]))/\agx S a.hds b.hds:=by
 have hc2:agx S a.hds b.hds:=fun v=>by
  rw[hc v,T.hds_eq a,T.hds_eq b,hh,List.count_cons,List.count_cons];omega
 rcases h with⟨rfl,rfl,ha⟩|⟨ho,j,t,u,h1,h2,h3,hne,rfl⟩
 ·have e:a=b:=by rw[←T.eta a,←T.eta b,hh,ha]
  subst e;exact⟨by rw[anO,aeT.2 rfl],fun _=>rfl,hc2⟩
 ·have hab:a≠b:=by
   rintro rfl;rw[h2] at h3;exact hne (Option.some.inj h3)
  have hn:a.args≠[]:=by intro e;rw[e] at h2;simp at h2
  have h0:=hpos hn;have e1:=asW (g:=g) h1 hl h2 h3 hne;have e2:=asW (g:=g) h1.symm hl.symm h3 h2 hne.symm;refine⟨ahY hc2 hab ?_ ?_ ?_,fun e=>absurd e hab,hc2⟩
  ·rcases agh g t u with⟨_,e⟩|⟨e,_⟩|⟨e,_⟩|⟨e,_⟩
   ·exact absurd e hne
   ·exact .inl e
   ·exact .inr (.inl e)
   ·exact .inr (.inr e)
  ·rw[ahN,←e1];exact⟨fun q=>⟨h0,by omega,.inr ⟨hh,q⟩⟩,fun⟨_,_,q⟩=>by rcases q with q|q;omega;exact q.2⟩
  ·rw[anC,←e2];exact⟨fun q=>⟨by omega,h0,.inr ⟨hh.symm,q⟩⟩,fun⟨_,_,q⟩=>by rcases q with q|q;omega;exact q.2⟩
theorem akl{a b:List T}{k:Nat}{s:T}(h:a.take k=b.take k)(h1:a[k]? =some s)(h2:b[k]? =some s):a.take (k+1)=b.take (k+1):=by
 obtain⟨i1,e1⟩:=ah.1 h1;obtain⟨i2,e2⟩:=ah.1 h2;rw[aI i1,aI i2,h,e1,e2]
theorem agx.snoc{S S':Sds}{A B L R:List Int}(h:agx S A B)(h':∀v,cS S' v=cS S v+(L.count v:Nat)-(R.count v:Nat)):agx S' (A++L) (B++R):=fun v=>by
 rw[h' v,h v,List.count_append,List.count_append];omega
theorem apd(g:Sg)(hr:aan g=true):∀(N:Nat) (a b:T),a.size<=N->aaL g a=true->bad (T.subs 1 a)=false->aaL g b=true->bad (T.subs 1 b)=false->a.size+b.size<=400000->
 ∀(aM:Nat) (ga:Option Addr) (gc:Nat) (pa:Option Addr) (ca:Nat) (pb:Option Addr) (cb Bs M:Nat) (w:World),aM<=Bs->aM<=M->aM<=w.heap.size->aaX aM w g ga gc->(Lit.int .i64 a.head).wf=true->(Lit.int .i64 b.head).wf=true->aab aM w a.args pa ca->aab aM w b.args pb cb->Scl w Bs M g ga gc ([],[])->
 Calls Tryz.prog 225 #[.pointer (some ⟨Bs,0,none⟩),tm a.head pa a.args.length ca,tm b.head pb b.args.length cb] w (avn Bs M g ga gc a b w):=by
 intro N
 induction N with
 |zero=>intro a b ht;have:=T.size_pos a;omega
 |succ N ih=>
  intro a b ht hfa hba hfb hbb hlen aM ga gc pa ca pb cb Bs M w hnB hnM hn hG hwa hwb hA hB hS;have IH:=ae ih;clear ih;have hBl:=hS.lt;have hMl:=hS.map.lt;obtain⟨W1,hW1⟩:∃W1,w.alloc (aaa a.head pa a.args.length ca)=W1:=⟨_,rfl⟩;have hs1:W1.heap.size=w.heap.size+1:=by rw[←hW1];simp
  have hF1:Below w.heap.size w W1:=by rw[←hW1];exact(ag _ w).alloc (af _) _
  have L1:aai (fun X=>Vc w.heap.size a.head pa a.args.length ca X) W1:=by rw[←hW1];exact aaP w _ _ _ _
  obtain⟨W2,hW2⟩:∃W2,W1.alloc (aaa b.head pb b.args.length cb)=W2:=⟨_,rfl⟩;have hs2:W2.heap.size=w.heap.size+2:=by rw[←hW2];simp;omega
  have hF2:Below w.heap.size w W2:=by rw[←hW2];exact hF1.alloc (by omega) _
  have L2:aai (fun X=>Vc W1.heap.size b.head pb b.args.length cb X) W2:=by rw[←hW2];exact aaP W1 _ _ _ _
  obtain⟨hv0,hv1⟩:=(L1.mv (by rw[←hW2];exact(ag _ W1).alloc (af _) _):aai (fun X=>Vc w.heap.size a.head pa a.args.length ca X) W2).now;obtain⟨hu0,hu1⟩:=L2.now;rw[hs1] at hu0 hu1;have hS2:=hS.later hF2;have hbB:w.heap.size≠Bs:=by omega
  have hbM:w.heap.size≠M:=by omega
  have hbB1:w.heap.size+1≠Bs:=by omega
  have hbM1:w.heap.size+1≠M:=by omega
  have hG2:=hG.below (hF2.mono hn);have hA2:=hA.below (hF2.mono hn);have hB2:=hB.below (hF2.mono hn);by_cases q1:a.head=b.head
  ·have hl:b.args.length=a.args.length:=by
    by_cases h0:a.head<0
    ·rw[acV hba h0,acV hbb (by omega)]
    ·exact(anB hfa hfb (by omega) q1).symm
   have hpos:a.args≠[]->0<=a.head:=fun hne=>by
    by_cases h0:a.head<0
    ·exact absurd (acV hba h0) hne
    ·omega
   rw[hl] at hu1 hW2 ⊢;rw[←q1] at hu0 hW2 ⊢;have HEND:=ae (fun(o:Int) (S:Sds)=>avo (g:=g) (a:=a) (b:=b) (o:=o) (S:=S) q1 hl.symm hpos);have HSA:=ae (fun(s:T) (hs:s∈a.args)=>acb hfa hba s hs);have HSB:=ae (fun(s:T) (hs:s∈b.args)=>acb hfb hbb s hs);have HSZ:=ae (show a.size=1+T.sizes a.args/\b.size=1+T.sizes b.args/\a.size<=N+1/\a.size+b.size<=400000 from⟨T.size_eq a,T.size_eq b,ht,hlen⟩);have HA:=ae hA2;have HBA:=ae hB2;have HG:=ae hG2;have HS2:=ae hS2;have HF2:=ae hF2;have HN:=ae (show aM<=W2.heap.size/\aM<=Bs/\aM<=M from⟨by omega,hnB,hnM⟩);have HL:=ae hl;have hlc:a.args.length<=ca/\ca<=maxLen:=⟨hA.1,hA.2.1⟩;have hlb:a.args.length<=cb/\cb<=maxLen:=⟨by rw[←hl];exact hB.1,hB.2.1⟩;unfold maxLen at hlc hlb;obtain⟨hl1,hl2⟩:=hlc;obtain⟨hl3,hl4⟩:=hlb;have hz1:w.heap.size<W2.heap.size:=by omega
   have hz2:w.heap.size+1<W2.heap.size:=by omega
   clear hG hA hB hS hS2 hF1 L1 L2 hF2 hG2 hA2 hB2 q1 hl hpos hfa hba hfb hbb hwa hwb ht hlen;go_enter Tryz.func225,Tryz.ntmps225;go_wp2;clear hW1 hW2
   go_loopw [7,26] (fun ov i wr=>CmI Bs M g ga gc a b W2 ov i wr) (fun _ i _=>a.args.length-(intOf i).toNat)
   case atStart=>exact⟨0,0,([],[]),Nat.zero_le _,rfl,rfl,HS2.out,Sfr.refl _ _ _,by simpa[T.hdsL] using agx.nil [],by simp[agw],.inl ⟨rfl,rfl,by simp⟩⟩
   case round=>
    obtain⟨k,o,S,hk,rfl,rfl,hSk,hFk,hck,hlk,hok⟩:=hrel;have HSk:=ae hSk;have HFk:=ae hFk;have HCk:=ae hck;have HLk:=ae hlk;have HOk:=ae hok;have hav:wr.cell? ⟨w.heap.size,1,none⟩=some (.slice pa a.args.length ca):=(hFk.cell hz1 hbB hbM).trans hv1;have hbv:wr.cell? ⟨w.heap.size+1,1,none⟩=some (.slice pb a.args.length cb):=(hFk.cell hz2 hbB1 hbM1).trans hu1;have hBw:Below aM W2 wr:=hFk.below HN.out.2.1 HN.out.2.2 HN.out.1;have hszr:=hFk.size;by_cases hlt:k<a.args.length
    ·obtain⟨b1,o1,s,a1,c1,rfl,hbn1,hs,hswf,hcs1,hcs2,hA'⟩:=(HA.out.below hBw).elem (i:=k) hlt;obtain⟨b2,o2,u,a2,c2,rfl,hbn2,hu,huwf,hcu1,hcu2,hB'⟩:=(HBA.out.below hBw).elem (i:=k) (by rw[HL.out];exact hlt);have hk0:(0:Int)<=(k:Int):=aw _;have hk1:(k:Int)<(a.args.length:Int):=by omega
     have hnw:=HN.out.1;have hb1w:b1<wr.heap.size:=by omega
     have hb2w:b2<wr.heap.size:=by omega
     obtain⟨hfs,hbs⟩:=HSA.out s (ak hs);obtain⟨hfu,hbu⟩:=HSB.out u (ak hu);obtain⟨z1,z2,z3,z4⟩:=HSZ.out;have y1:=T.size_lt_of_mem hs;have y2:=T.size_lt_of_mem hu;have x1:=T.sizes_take hs;have x2:=T.sizes_take hu;have x3:=T.sizes_append (a.args.take (k+1)) (a.args.drop (k+1));have x4:=T.sizes_append (b.args.take (k+1)) (b.args.drop (k+1));rw[List.take_append_drop] at x3 x4;have HD1:=ae (aeX hs);have HD2:=ae (aeX hu);have HX:=ae (And.intro x1 x2);have HSU:=ae (And.intro hs hu);by_cases ho:o=0
     ·obtain⟨rfl,htk⟩:S=([],[])/\a.args.take k=b.args.take k:=by
       rcases hok with h|h
       ·exact h.2
       ·exact absurd ho h.1
      have HCALL:=ae (IH.out s u (by omega) hfs hbs hfu hbu (by omega) aM ga gc a1 c1 a2 c2 Bs M wr.drew HN.out.2.1 HN.out.2.2 (by show aM<=wr.heap.size;omega) (HG.out.below hBw.drew) hswf huwf (hA'.below (ag _ _).drew) (hB'.below (ag _ _).drew) (hSk.kept rfl rfl));have HTK:=ae htk;clear hA' hB' hs hu hSk hFk hck hlk hok hBw hfs hbs hfu hbu z1 z2 z3 z4 y1 y2 x1 x2 x3 x4 htk hv0 hv1 hu0 hu1;subst ho;go_wp2
      go_still_tail 11,(by kernel_rfl)
      change wpList _ _ _ _ _ wr.drew
      go_wp2_with fail
      refine HCALL.out.mono ?_;rintro e w5 ⟨rfl,S5,hS5,hF5,he5,hc5,hl5⟩;have HS5:=ae hS5;have HF5:=ae ((HFk.out.drew).trans hF5);have HR:=ae (And.intro he5 (And.intro hc5 hl5));clear hS5 hF5 he5 hc5 hl5;go_wp2
      go_roundw
      case rel=>
       obtain⟨he5,hc5,hl5⟩:=HR.out;obtain⟨hs,hu⟩:=HSU.out;refine⟨k+1,_,S5,by omega,by go_num,rfl,HS5.out,HF5.out,?_,?_,?_⟩
       ·rw[HD1.out,HD2.out,HTK.out];exact fun v=>by rw[hc5 v,List.count_append,List.count_append];omega
       ·have:=HX.out;omega
       ·by_cases hsu:s=u
        ·subst hsu;exact .inl ⟨aeT.2 rfl,he5 rfl,akl HTK.out hs hu⟩
        ·exact .inr ⟨fun e=>hsu (aeT.1 e),k,s,u,HTK.out,hs,hu,hsu,rfl⟩
      case measure=>simp[intOf];omega
     ·have hold:=hok.resolve_left (fun h=>ho h.1);have HOLD:=ae hold;have HCALL:=ae (akj g hr s u hfs hbs hfu hbu S (by omega) aM ga gc a1 c1 a2 c2 Bs M wr.drew HN.out.2.1 HN.out.2.2 (by show aM<=wr.heap.size;omega) (HG.out.below hBw.drew) hswf huwf (hA'.below (ag _ _).drew) (hB'.below (ag _ _).drew) (hSk.kept rfl rfl));have ho2:(o==0)=false:=by simpa using ho
      clear hA' hB' hs hu hSk hFk hck hlk hok hBw hfs hbs hfu hbu z1 z2 z3 z4 y1 y2 x1 x2 x3 x4 hold hv0 hv1 hu0 hu1 ho;go_wp2
      go_still_tail 11,(by kernel_rfl)
      change wpList _ _ _ _ _ wr.drew
      go_wp2_with fail
      refine HCALL.out.mono ?_;rintro e w5 ⟨rfl,hS5,hF5⟩;have HS5:=ae hS5;have HF5:=ae ((HFk.out.drew).trans hF5);clear hS5 hF5;go_wp2
      go_roundw
      case rel=>
       refine⟨k+1,o,ab S s u,by omega,by go_num,rfl,HS5.out,HF5.out,?_,?_,.inr HOLD.out⟩
       ·rw[HD1.out,HD2.out];exact HCk.out.put
       ·have h1:=HX.out;have h2:=HLk.out;unfold ab;rw[adq,adq,T.hds_length,T.hds_length];omega
      case measure=>simp[intOf];omega
    ·obtain rfl:k=a.args.length:=by omega
     have htb:b.args.take a.args.length=b.args:=by rw[←HL.out,List.take_length]
     rw[List.take_length,htb] at hck hlk hok;obtain⟨e1,e2,e3⟩:=HEND.out o S hck hok;have HE:=ae (And.intro e1 (And.intro e2 e3));have hl9:agw S<=a.size+b.size:=by have:=HSZ.out;omega
     have HL9:=ae hl9;have HDC:=ae (ahX g hr S o (by have:=HSZ.out;omega) ga gc Bs M wr hSk);clear hSk hFk hck hlk hok hBw e1 e2 e3 hl9 htb hv0 hv1 hu0 hu1
     go_wp2_with fail
     refine HDC.out.mono ?_;rintro e w5 ⟨rfl,hb5⟩;have HS5:=ae (HSk.out.later hb5);have HF5:=ae (((Sfr.of_below HF2.out).trans HFk.out).trans (Sfr.of_below hb5));clear hb5;go_wp2;go_ret;exact⟨by rw[HE.out.1];rfl,S,HS5.out,HF5.out,HE.out.2.1,HE.out.2.2,HL9.out⟩
  ·have P1:=ae (akj g hr a b hfa hba hfb hbb ([],[]) (by simp[agw];omega) aM ga gc pa ca pb cb Bs M W2 hnB hnM (by omega) hG2 hwa hwb hA2 hB2 hS2)
   have hcnt:agx (ab ([],[]) a b) a.hds b.hds:=by
    have:=(agx.nil []).put (L:=a.hds) (R:=b.hds);simpa[ab] using this
   have hab:a≠b:=fun e=>q1 (by rw[e]);have HV:=ae (ahY hcnt hab (apc a b q1) (atT (g:=g) q1) (atU (g:=g) q1));have hls:agw (ab ([],[]) a b)=a.size+b.size:=by unfold ab;rw[adq,adq,T.hds_length,T.hds_length];simp[agw]
   have HCN:=ae hcnt;have HAB:=ae hab;have HLS:=ae hls;have HF2:=ae hF2;have HBY:=ae (fun W=>anM a b pa a.args.length ca pb b.args.length cb W);have HDC:=ae (fun(W:World) (hW:Scl W Bs M g ga gc (ab ([],[]) a b))=>ahX g hr (ab ([],[]) a b) (byH a b) (by omega) ga gc Bs M W hW);have q2:(a.head != b.head)=true:=by simpa using q1
   clear hG hA hB hS hS2 hF1 L1 L2 hF2 hG2 hA2 hB2 hcnt hab hls q1;go_enter Tryz.func225,Tryz.ntmps225
   go_wp2_with fail
   refine P1.out.mono ?_;rintro e w3 ⟨rfl,hS3,hF3⟩;have hv0':w3.cell? ⟨w.heap.size,0,none⟩=some (.int .i64 a.head):=(hF3.cell (by omega) hbB hbM).trans hv0;have hv1':w3.cell? ⟨w.heap.size,1,none⟩=some (.slice pa a.args.length ca):=(hF3.cell (by omega) hbB hbM).trans hv1;have hu0':w3.cell? ⟨w.heap.size+1,0,none⟩=some (.int .i64 b.head):=(hF3.cell (by omega) hbB1 hbM1).trans hu0;have hu1':w3.cell? ⟨w.heap.size+1,1,none⟩=some (.slice pb b.args.length cb):=(hF3.cell (by omega) hbB1 hbM1).trans hu1;have HS3:=ae hS3;have HF3:=ae ((Sfr.of_below HF2.out).trans hF3);clear hS3 hF3
   go_wp2_with fail
   refine(HBY.out _).mono ?_;rintro e w4 ⟨rfl,hb4⟩;have HS4:=ae (HS3.out.later hb4);have HF4:=ae (HF3.out.trans (Sfr.of_below hb4));clear hb4
   go_wp2_with fail
   refine(HDC.out _ HS4.out).mono ?_;rintro e w5 ⟨rfl,hb5⟩;have HS5:=ae (HS4.out.later hb5);have HF5:=ae (HF4.out.trans (Sfr.of_below hb5));clear hb5;go_wp2;go_ret;exact⟨by rw[HV.out];rfl,_,HS5.out,HF5.out,fun e=>absurd e HAB.out,HCN.out,by rw[HLS.out];exact af _⟩
theorem amI(g:Sg)(hr:aan g=true)(a b:T)(hfa:aaL g a=true)(hba:bad (T.subs 1 a)=false)(hfb:aaL g b=true)(hbb:bad (T.subs 1 b)=false)(hlen:a.size+b.size<=400000)
 (aM:Nat) (ga:Option Addr) (gc:Nat) (pa:Option Addr) (ca:Nat) (pb:Option Addr) (cb:Nat) (w:World) (hn:aM<=w.heap.size) (hG:aaX aM w g ga gc) (hwa:(Lit.int .i64 a.head).wf=true) (hwb:(Lit.int .i64 b.head).wf=true) (hA:aab aM w a.args pa ca) (hB:aab aM w b.args pb cb):
 Calls Tryz.prog 204 #[.slice ga g.length gc,tm a.head pa a.args.length ca,tm b.head pb b.args.length cb] w fun e w'=>e= .returned (.int .i64 (abp g a b))/\Below w.heap.size w w':=by
 have hmm:=@run_makeMap Tryz.prog;obtain⟨W1,hW1⟩:∃W1,w.alloc (aaa a.head pa a.args.length ca)=W1:=⟨_,rfl⟩;have hs1:W1.heap.size=w.heap.size+1:=by rw[←hW1];simp
 have hF1:Below w.heap.size w W1:=by rw[←hW1];exact(ag _ w).alloc (af _) _
 have L1:aai (fun X=>Vc w.heap.size a.head pa a.args.length ca X) W1:=by rw[←hW1];exact aaP w _ _ _ _
 obtain⟨W2,hW2⟩:∃W2,W1.alloc (aaa b.head pb b.args.length cb)=W2:=⟨_,rfl⟩;have hs2:W2.heap.size=w.heap.size+2:=by rw[←hW2];simp;omega
 have hF2:Below w.heap.size w W2:=by rw[←hW2];exact hF1.alloc (by omega) _
 have L2:aai (fun X=>Vc W1.heap.size b.head pb b.args.length cb X) W2:=by rw[←hW2];exact aaP W1 _ _ _ _
 have L1':aai (fun X=>Vc w.heap.size a.head pa a.args.length ca X) W2:=L1.mv (by rw[←hW2];exact(ag _ W1).alloc (af _) _);obtain⟨W3,hW3⟩:∃W3,W2.alloc (.map #[] 0)=W3:=⟨_,rfl⟩;have hs3:W3.heap.size=w.heap.size+3:=by rw[←hW3];simp;omega
 have hF3:Below W2.heap.size W2 W3:=by rw[←hW3];exact(ag _ W2).alloc (af _) _
 have hM3:afp W3 (w.heap.size+2) ([],[]):=by rw[←hW3,←hs2];exact afp.made W2
 obtain⟨W4,hW4⟩:∃W4,W3.alloc (.cells #[.slice ga g.length gc,.int .i64 0,.map (some (w.heap.size+2))] 263)=W4:=⟨_,rfl⟩;have hs4:W4.heap.size=w.heap.size+4:=by rw[←hW4];simp;omega
 have hF4:Below W2.heap.size W2 W4:=by rw[←hW4];exact hF3.alloc (by omega) _
 have hM4:afp W4 (w.heap.size+2) ([],[]):=hM3.kept (by rw[←hW4];exact az _ _ _ (by omega))
 have hS4:Scl W4 (w.heap.size+3) (w.heap.size+2) g ga gc ([],[]):=by
  refine⟨?_,?_,?_,?_,hM4,by simp⟩
  ·rw[←hW4,←hs3];simp[go_sem]
  ·rw[←hW4,←hs3];simp[go_sem,wS,adS]
  ·rw[←hW4,←hs3];simp[go_sem]
  ·rw[←hW4,←hs3];simp[go_sem]
 have hb4:Below w.heap.size w W4:=hF2.trans (hF4.mono (by omega));obtain⟨hv0,hv1⟩:=(L1'.mv hF4).now;obtain⟨hu0,hu1⟩:=(L2.mv hF4).now;rw[hs1] at hu0 hu1;have HC:=ae (apd g hr a.size a b (af _) hfa hba hfb hbb hlen aM ga gc pa ca pb cb (w.heap.size+3) (w.heap.size+2) W4 (by omega) (by omega) (by omega) (hG.below (hb4.mono hn)) hwa hwb (hA.below (hb4.mono hn)) (hB.below (hb4.mono hn)) hS4);have HB4:=ae hb4;clear hG hA hB hF1 L1 hF2 L2 L1' hF3 hM3 hF4 hM4 hS4 hb4;go_enter Tryz.func204,Tryz.ntmps204
 go_wp2_with fail
 refine HC.out.mono ?_;rintro e w5 ⟨rfl,S,hS5,hF5,_⟩;have HB5:=ae (HB4.out.trans (hF5.below (B:=w.heap.size) (by omega) (by omega) (by omega)));clear hS5 hF5;go_wp2;go_ret;exact⟨rfl,HB5.out⟩
def abM(g:Sg):List T->Int
 |[]=>0
 |t::ts=>if aaH g t≠0 then aaH g t else abM g ts
def FeI(g:Sg)(ts:List T)(w:World)(i:Value)(wr:World):Prop:=∃k:Nat,k<=ts.length/\i= .int .i64 (k:Nat)/\abM g ts=abM g (ts.drop k)/\Below w.heap.size w wr
theorem acp(g:Sg)(ts:List T)(hsz:∀t∈ts,t.size<=1000000000000)(aM:Nat)(ga:Option Addr)(gc:Nat)(a:Option Addr)(c:Nat)(w:World)(hn:aM<=w.heap.size)(hG:aaX aM w g ga gc)(hA:aab aM w ts a c):
 Calls Tryz.prog 203 #[.slice ga g.length gc,.slice a ts.length c] w fun e w'=>e= .returned (.int .i64 (abM g ts))/\Below w.heap.size w w':=by
 have hlc:ts.length<=c/\c<=maxLen:=⟨hA.1,hA.2.1⟩;unfold maxLen at hlc;obtain⟨hl1,hl2⟩:=hlc;have HA:=ae hA;have HG:=ae hG;have HSZ:=ae hsz;clear hA hG hsz;go_enter Tryz.func203,Tryz.ntmps203;go_wp2
 go_loopw [10] (fun i wr=>FeI g ts w i wr) (fun i _=>ts.length-(intOf i).toNat)
 case atStart=>exact⟨0,Nat.zero_le _,rfl,by simp,ag _ _⟩
 case round=>
  obtain⟨k,hk,rfl,hE,hB⟩:=hrel;have HE:=ae hE;have HB:=ae hB;have hbz:=hB.size;clear hE hB;by_cases hlt:k<ts.length
  ·obtain⟨b,o,s,a',c',rfl,hbn,hs,hswf,hc1,hc2,hA'⟩:=(HA.out.below (HB.out.mono hn)).elem (i:=k) hlt;have hk0:(0:Int)<=(k:Int):=aw _;have hk1:(k:Int)<(ts.length:Int):=by omega
   have hbw:b<wr.heap.size:=by omega
   obtain⟨W1,hW1⟩:∃W1,wr.alloc (aaa s.head a' s.args.length c')=W1:=⟨_,rfl⟩;have hF1:Below wr.heap.size wr W1:=by rw[←hW1];exact(ag _ wr).alloc (af _) _
   obtain⟨hv0,hv1⟩:=(show aai (fun X=>Vc wr.heap.size s.head a' s.args.length c' X) W1 from by rw[←hW1];exact aaP wr _ _ _ _).now;have hBW:Below aM w W1:=(HB.out.mono hn).trans (hF1.mono (by omega));have HC:=ae (adC g s (HSZ.out s (ak hs)) aM ga gc a' c' W1 (by have:=hF1.size;omega) (HG.out.below hBW) hswf (hA'.below (hF1.mono (by omega))));have HF1:=ae (HB.out.trans (hF1.mono hbz))
   have hst:abM g (ts.drop k)=if aaH g s≠0 then aaH g s else abM g (ts.drop (k+1)):=by
    obtain⟨hkl,hke⟩:=ah.1 hs;rw[aD hkl,hke];rfl
   have HST:=ae hst;clear hs hswf hA' hst hBW hF1
   go_wp2_with fail
   refine HC.out.mono ?_;rintro e w2 ⟨rfl,hb2⟩;have HB2:=ae (HF1.out.trans (hb2.mono HF1.out.size));clear hb2;obtain⟨r,hr⟩:∃r,aaH g s=r:=⟨_,rfl⟩;rw[hr] at HST ⊢;clear hr;by_cases h0:r=0
   ·have HN:=ae (show abM g ts=abM g (ts.drop (k+1)) from by rw[HE.out,HST.out,if_neg (by simpa using h0)]);subst h0;go_wp2
    go_roundw
    case rel=>exact⟨k+1,by omega,by go_num,HN.out,HB2.out⟩
    case measure=>simp[intOf];omega
   ·have HN:=ae (show abM g ts=r from by rw[HE.out,HST.out,if_pos h0]);have h1:(r != 0)=true:=by simpa using h0
    clear h0;go_wp2;go_ret;exact⟨by rw[HN.out];rfl,HB2.out⟩
  ·obtain rfl:k=ts.length:=by omega
   have HN:=ae (show abM g ts=0 from by rw[HE.out,List.drop_of_length_le (af _)];rfl);go_wp2;go_ret;exact⟨by rw[HN.out];rfl,HB.out⟩
def atV(g:Sg)(a b:T):Value:=if abM g [a,b]=0 then .tuple #[.int .i64 (abp g a b),.int .i64 0] else .tuple #[.int .i64 0,.int .i64 (abM g [a,b])]
theorem arG{g:Sg}{a b:T}(h:abM g [a,b]=0):aaH g a=0/\aaH g b=0:=by
 unfold abM at h;split at h
 ·rename_i q;exact absurd h q
 ·rename_i q;unfold abM at h;split at h
  ·rename_i q';exact absurd h q'
  ·rename_i q';exact⟨by simpa using q,by simpa using q'⟩
end Go.Proofs.YtabfapijgfjflaaGreat
