import Derived.Test.YtabfapijgfjflaaGreatMQBi
import Derived.Test.YtabfapijgfjflaaGreatMQBj
import Derived.Test.YtabfapijgfjflaaGreatMQBb
import Derived.Test.YtabfapijgfjflaaGreatMQBd
import Derived.Test.YtabfapijgfjflaaGreatMQBc
import Derived.Test.YtabfapijgfjflaaGreatMQBg
import Derived.Deep.RegionHeld3
import Derived.Test.YtabfapijgfjflaaGreatMAl
set_option linter.unusedVariables false
set_option linter.unusedSimpArgs false
set_option maxRecDepth 100000
set_option maxHeartbeats 4000000
namespace Go.Proofs.YtabfapijgfjflaaGreat
open Go.RowKit
def Ok4(g:Sg)(t:T):Prop:=aaL g t=true/\bad (T.subs 1 t)=false/\t.size<=200000
def ahz(g:Sg)(t u:T):Bool:=decide (abp g t u=1)
theorem arH(g:Sg)(t u:T):ahz g t u=gtK g t u:=by
 unfold ahz;rw[Bool.eq_iff_iff,decide_eq_true_eq,ahN]
theorem alH(g:Sg)(hr:aan g=true)(t u:T)(ht:Ok4 g t)(hu:Ok4 g u)(aM:Nat)(ga:Option Addr)(gc:Nat)(pa:Option Addr)(ca:Nat)(pb:Option Addr)(cb Bg Bl:Nat)(W:World)(hn:aM<=W.heap.size)(hG:aaX aM W g ga gc)(hwt:(Lit.int .i64 t.head).wf=true)(hwu:(Lit.int .i64 u.head).wf=true)
 (hA:aab aM W t.args pa ca) (hB:aab aM W u.args pb cb) (hg:Bg<W.heap.size) (hl:Bl<W.heap.size) (hgc:W.cell? ⟨Bg,0,none⟩=some (.slice ga g.length gc)) (hl0:W.cell? ⟨Bl,0,none⟩=some (.int .i64 u.head)) (hl1:W.cell? ⟨Bl,1,none⟩=some (.slice pb u.args.length cb)):
 Calls Tryz.prog 235 #[tm t.head pa t.args.length ca,.pointer (some ⟨Bg,0,none⟩),.pointer (some ⟨Bl,0,none⟩)] W fun e w'=>e= .returned (.bool (ahz g t u))/\Below W.heap.size W w':=by
 obtain⟨W1,hW1⟩:∃W1,W.alloc (aaa t.head pa t.args.length ca)=W1:=⟨_,rfl⟩;have hF1:Below W.heap.size W W1:=by rw[←hW1];exact(ag _ W).alloc (af _) _
 obtain⟨hv0,hv1⟩:=(show aai (fun X=>Vc W.heap.size t.head pa t.args.length ca X) W1 from by rw[←hW1];exact aaP W _ _ _ _).now;have g0:W1.cell? ⟨Bg,0,none⟩=some (.slice ga g.length gc):=(hF1.cell (p:=⟨Bg,0,none⟩) hg).trans hgc;have l0:W1.cell? ⟨Bl,0,none⟩=some (.int .i64 u.head):=(hF1.cell (p:=⟨Bl,0,none⟩) hl).trans hl0;have l1:W1.cell? ⟨Bl,1,none⟩=some (.slice pb u.args.length cb):=(hF1.cell (p:=⟨Bl,1,none⟩) hl).trans hl1;have HC:=ae (amI g hr t u ht.1 ht.2.1 hu.1 hu.2.1 (by have:=ht.2.2;have:=hu.2.2;omega) aM ga gc pa ca pb cb W1 (aE hn hF1.size) (hG.below (hF1.mono hn)) hwt hwu (hA.below (hF1.mono hn)) (hB.below (hF1.mono hn)));have HF1:=ae hF1;clear hG hA hB hF1 hgc hl0 hl1;go_enter Tryz.func235,Tryz.ntmps235
 go_wp2_with fail
 refine HC.out.mono ?_;rintro e w2 ⟨rfl,hb2⟩;have HB:=ae (HF1.out.trans (hb2.mono HF1.out.size));clear hb2;obtain⟨r,hr⟩:∃r,abp g t u=r:=⟨_,rfl⟩;have HM:=ae (show ahz g t u=decide (r=1) from by unfold ahz;rw[hr]);rw[hr];clear hr;by_cases h:r=1
 ·subst h;go_wp2;go_ret;exact⟨by rw[HM.out];rfl,HB.out⟩
 ·have h':(r==1)=false:=by simpa using h
  go_wp2;go_ret;exact⟨by rw[HM.out];simp[h],HB.out⟩
def exB(g:Sg)(high low:List T):Bool:=low.all fun u=>high.any fun t=>ahz g t u
def ExI(g:Sg)(high low:List T)(W1:World)(i:Value)(wr:World):Prop:=∃k:Nat,k<=low.length/\i= .int .i64 (k:Nat)/\exB g high low=exB g high (low.drop k)/\Below W1.heap.size W1 wr
theorem ahZ(g:Sg)(hr:aan g=true)(high low:List T)(hh:∀t∈high,Ok4 g t)(hlo:∀t∈low,Ok4 g t)(aM:Nat)(ga:Option Addr)(gc:Nat)(pa:Option Addr)(ca:Nat)(pb:Option Addr)(cb:Nat)(w:World)(hn:aM<=w.heap.size)(hG:aaX aM w g ga gc)(hA:aab aM w high pa ca)(hB:aab aM w low pb cb):
 Calls Tryz.prog 222 #[.slice ga g.length gc,.slice pa high.length ca,.slice pb low.length cb] w fun e w'=>e= .returned (.bool (exB g high low))/\Below w.heap.size w w':=by
 have hlc:low.length<=cb/\cb<=maxLen:=⟨hB.1,hB.2.1⟩;unfold maxLen at hlc;obtain⟨hl1,hl2⟩:=hlc;obtain⟨W1,hW1⟩:∃W1,w.alloc (.cells #[.slice ga g.length gc] 22)=W1:=⟨_,rfl⟩;have hs1:W1.heap.size=w.heap.size+1:=by rw[←hW1];simp
 have hF1:Below w.heap.size w W1:=by rw[←hW1];exact(ag _ w).alloc (af _) _
 have hg1:W1.cell? ⟨w.heap.size,0,none⟩=some (.slice ga g.length gc):=by rw[←hW1];simp[go_sem]
 have HA:=ae (hA.below (hF1.mono hn));have HB:=ae (hB.below (hF1.mono hn));have HG:=ae (hG.below (hF1.mono hn));have HF1:=ae hF1;have HHL:=ae (And.intro hh hlo);have HR:=ae hr;have HN:=ae (show aM<=W1.heap.size from by omega);have HS1:=ae hs1;have eg:=enters_of Tryz.func235 (by kernel_rfl) rfl;clear hA hB hG hF1 hh hlo hr;go_enter Tryz.func222,Tryz.ntmps222;go_wp2;clear hW1
 go_loopw [11] (fun i wr=>ExI g high low W1 i wr) (fun i _=>low.length-(intOf i).toNat)
 case atStart=>exact⟨0,Nat.zero_le _,rfl,by simp,ag _ _⟩
 case round=>
  obtain⟨k,hk,rfl,hE,hBk⟩:=hrel;have HE:=ae hE;have HBk:=ae hBk;have hbz:=hBk.size;clear hE hBk;by_cases hlt:k<low.length
  ·obtain⟨b,o,s,a',c',rfl,hbn,hs,hswf,hc1,hc2,hA'⟩:=(HB.out.below (HBk.out.mono HN.out)).elem (i:=k) hlt;have hk0:(0:Int)<=(k:Int):=aw _;have hk1:(k:Int)<(low.length:Int):=by omega
   have hnn:=HN.out;have hbw:b<wr.heap.size:=by omega
   obtain⟨W2,hW2⟩:∃W2,wr.alloc (aaa s.head a' s.args.length c')=W2:=⟨_,rfl⟩;have hs2:W2.heap.size=wr.heap.size+1:=by rw[←hW2];simp
   have hF2:Below wr.heap.size wr W2:=by rw[←hW2];exact(ag _ wr).alloc (af _) _
   have L2:=(show aai (fun X=>Vc wr.heap.size s.head a' s.args.length c' X) W2 from by rw[←hW2];exact aaP wr _ _ _ _);have hB2:Below W1.heap.size W1 W2:=HBk.out.trans (hF2.mono hbz);have hmem:=ak hs
   have HC:=ae (ab7 (fun t=>ahz g t s) 235 #[.pointer (some ⟨w.heap.size,0,none⟩),.pointer (some ⟨wr.heap.size,0,none⟩)] eg high aM pa ca W2 (by omega) (HA.out.below (hB2.mono hnn))
    (fun X t a2 c2 ht hX htw htA=>by
     obtain⟨q0,q1⟩:=L2.mv hX |>.now;have hBX:Below W1.heap.size W1 X:=hB2.trans (hX.mono hB2.size);have hz:=HS1.out;have hXz:=hX.size
     exact alH g HR.out t s (HHL.out.1 t ht) (HHL.out.2 s hmem) aM ga gc a2 c2 a' c' w.heap.size wr.heap.size X (by omega) (HG.out.below (hBX.mono hnn)) htw hswf htA (hA'.below ((hF2.trans (hX.mono (by omega))).mono (by omega))) (by omega) (by omega)
      ((hBX.cell (p:=⟨w.heap.size,0,none⟩) (by show w.heap.size<W1.heap.size;omega)).trans hg1) q0 q1))
   have hst:exB g high (low.drop k)=((high.any fun t=>ahz g t s)&&exB g high (low.drop (k+1))):=by
    obtain⟨hkl,hke⟩:=ah.1 hs;rw[aD hkl,hke];rfl
   have HST:=ae hst;have HB2:=ae hB2;clear hs hswf hA' hst hF2 L2 hB2 hmem eg
   go_wp2_with fail
   refine HC.out.mono ?_;rintro e w3 ⟨rfl,hb3⟩;have HB3:=ae (HB2.out.trans (hb3.mono HB2.out.size));clear hb3;obtain⟨r,hr⟩:∃r,(high.any fun t=>ahz g t s)=r:=⟨_,rfl⟩;rw[hr] at HST ⊢;clear hr;cases r with
   |true=>
    have HN2:=ae (show exB g high low=exB g high (low.drop (k+1)) from by rw[HE.out,HST.out];rfl);go_wp2
    go_roundw
    case rel=>exact⟨k+1,by omega,by go_num,HN2.out,HB3.out⟩
    case measure=>simp[intOf];omega
   |false=>
    have HN2:=ae (show exB g high low=false from by rw[HE.out,HST.out];rfl);go_wp2;go_ret;exact⟨by rw[HN2.out];rfl,HF1.out.trans (HB3.out.mono HF1.out.size)⟩
  ·obtain rfl:k=low.length:=by omega
   have HN2:=ae (show exB g high low=true from by rw[HE.out,List.drop_of_length_le (af _)];rfl);go_wp2;go_ret;exact⟨by rw[HN2.out];rfl,HF1.out.trans (HBk.out.mono HF1.out.size)⟩
def aq6(g:Sg)(a b:List T):Value:=if abM g a=0 then(if abM g b=0 then .tuple #[.int .i64 (acB g a b),.int .i64 0] else .tuple #[.int .i64 0,.int .i64 (abM g b)]) else .tuple #[.int .i64 0,.int .i64 (abM g a)]
theorem ai2{g:Sg}:∀{ts:List T},abM g ts=0->∀t∈ts,aaH g t=0
 |[],_,t,h=>by simp at h
 |s::ts,h,t,ht=>by
  unfold abM at h;split at h
  ·rename_i q;exact absurd h q
  ·rename_i q
   rcases List.mem_cons.1 ht with rfl|ht
   ·simpa using q
   ·exact ai2 h t ht
theorem as5{g:Sg}{t:T}(h:aaH g t=0):Ok4 g t:=by
 obtain⟨_,r2,r3,_⟩:=aaR h;obtain⟨k1,_,k3⟩:=aam r2;exact⟨r3,k3,by omega⟩
theorem atW{g:Sg}{a b us vs:List T}(hu:∀z,us.count z=sub a b z)(hv:∀z,vs.count z=sub b a z):
 acB g a b=if us=[]/\vs=[] then 0 else if exB g us vs then 1 else if exB g vs us then-1 else 2:=by
 have m1:∀z,z∈us↔z∈acA a b:=fun z=>by rw[aj8,←List.count_pos_iff,hu z];unfold sub;omega
 have m2:∀z,z∈vs↔z∈acA b a:=fun z=>by rw[aj8,←List.count_pos_iff,hv z];unfold sub;omega
 have n1:us=[]↔acA a b=[]:=by simp only[List.eq_nil_iff_forall_not_mem,m1]
 have n2:vs=[]↔acA b a=[]:=by simp only[List.eq_nil_iff_forall_not_mem,m2]
 have ov:∀x y:List T,¬(x=[]/\y=[])->exB g x y=alv g x y:=fun x y hne=>by
  unfold exB alv;have e:(fun u=>x.any fun t=>ahz g t u)=fun u=>x.any fun t=>gtK g t u:=by funext u;congr 1;funext t;exact arH g t u
  rw[e];by_cases hx:x=[]
  ·subst hx;cases y with
   |nil=>exact absurd ⟨rfl,rfl⟩ hne
   |cons u y=>simp
  ·simp[hx]
 unfold acB;rw[←agi m1 m2,←agi m2 m1];by_cases h:us=[]/\vs=[]
 ·rw[if_pos h,if_pos (show acA a b=[]/\acA b a=[] from⟨n1.1 h.1,n2.1 h.2⟩)]
 ·rw[if_neg h,if_neg (show ¬(acA a b=[]/\acA b a=[]) from fun e=>h ⟨n1.2 e.1,n2.2 e.2⟩),ov us vs h,ov vs us (fun e=>h ⟨e.2,e.1⟩)]
theorem ape(g:Sg)(a b:List T)(hla:a.length<=1000000)(hlb:b.length<=1000000)(hsa:∀t∈a,t.size<=1000000000000)(hsb:∀t∈b,t.size<=1000000000000)(aM:Nat)(ga:Option Addr)(gc:Nat)(pa:Option Addr)(ca:Nat)(pb:Option Addr)(cb:Nat)(w:World)(hn:aM<=w.heap.size)(hG:aaX aM w g ga gc)(hA:aab aM w a pa ca)(hB:aab aM w b pb cb):
 Calls Tryz.prog 192 #[.slice ga g.length gc,.slice pa a.length ca,.slice pb b.length cb] w fun e w'=>e= .returned (aq6 g a b)/\Below w.heap.size w w':=by
 have H1:=ae (acp g a hsa aM ga gc pa ca w hn hG hA);have H2:=ae (fun(W:World) (hW:Below w.heap.size w W)=>acp g b hsb aM ga gc pb cb W (aE hn hW.size) (hG.below (hW.mono hn)) (hB.below (hW.mono hn)));have H3:=ae (fun(W:World) (hW:Below w.heap.size w W)=>aeW a b hla hlb hsa hsb aM pa ca pb cb W (aE hn hW.size) (hA.below (hW.mono hn)) (hB.below (hW.mono hn)));have HG:=ae (fun(W:World) (hW:Below w.heap.size w W)=>(hG.below (hW.mono hn)).mono (aE hn hW.size));clear hG hA hB hsa hsb;go_enter Tryz.func192,Tryz.ntmps192
 go_wp2_with fail
 refine H1.out.mono ?_;rintro e w1 ⟨rfl,hb1⟩;have HB1:=ae hb1;clear hb1;by_cases h1:abM g a=0
 ·have HE1:=ae h1;rw[h1];clear h1
  go_wp2_with fail
  refine(H2.out _ HB1.out).mono ?_;rintro e w2 ⟨rfl,hb2⟩;have HB2:=ae (HB1.out.trans (hb2.mono HB1.out.size));clear hb2;by_cases h2:abM g b=0
  ·have HE2:=ae h2;rw[h2];clear h2
   go_wp2_with fail
   refine(H3.out _ HB2.out).mono ?_;rintro e w3 ⟨us,vs,a1,c1,a2,c2,rfl,hu,hv,hA1,hA2,hl1,hl2,hb3⟩;have hb3':Below w.heap.size w w3:=HB2.out.trans (hb3.mono HB2.out.size);have HV:=ae (show aq6 g a b= .tuple #[.int .i64 (acB g a b),.int .i64 0] from by unfold aq6;rw[if_pos HE1.out,if_pos HE2.out]);have HR:=ae (atW (g:=g) hu hv)
   have hou:∀t∈us,Ok4 g t/\aan g=true:=fun t ht=>by
    have hm:t∈a:=List.count_pos_iff.1 (by have:=List.count_pos_iff.2 ht;rw[hu t] at this;unfold sub at this;omega);have:=ai2 HE1.out t hm;exact⟨as5 this,(aaR this).1⟩
   have hov:∀t∈vs,Ok4 g t/\aan g=true:=fun t ht=>by
    have hm:t∈b:=List.count_pos_iff.1 (by have:=List.count_pos_iff.2 ht;rw[hv t] at this;unfold sub at this;omega);have:=ai2 HE2.out t hm;exact⟨as5 this,(aaR this).1⟩
   have HX1:=ae (fun(hr:aan g=true)=>ahZ g hr us vs (fun t ht=>(hou t ht).1) (fun t ht=>(hov t ht).1) w3.heap.size ga gc a1 c1 a2 c2 w3 (af _) ((HG.out w3 hb3').mono (af _)) hA1 hA2);have HX2:=ae (fun(hr:aan g=true) (W:World) (hW:Below w3.heap.size w3 W)=>ahZ g hr vs us (fun t ht=>(hov t ht).1) (fun t ht=>(hou t ht).1) w3.heap.size ga gc a2 c2 a1 c1 W hW.size ((HG.out w3 hb3').below hW) (hA2.below hW) (hA1.below hW));have HOV:=ae (And.intro hou hov);have HB3:=ae hb3';clear hu hv hA1 hA2 hl1 hl2 hb3 hb3' hou hov;by_cases h0:us=[]/\vs=[]
   ·have HZ:=ae (show acB g a b=0 from by rw[HR.out,if_pos h0]);obtain⟨rfl,rfl⟩:=h0;go_wp2;refine bodyPost_ret (v:= .tuple #[.int .i64 0,.int .i64 0]) (by simp[results,Tryz.results192,go_sem]) rfl ?_;exact⟨by rw[HV.out,HZ.out],HB3.out⟩
   ·have HR2:=ae (show acB g a b=if exB g us vs then 1 else if exB g vs us then-1 else 2 from by rw[HR.out,if_neg h0])
    have hrg:aan g=true:=by
     cases hue:us with
     |cons u us'=>exact(HOV.out.1 u (by rw[hue];simp)).2
     |nil=>
      cases hve:vs with
      |cons v vs'=>exact(HOV.out.2 v (by rw[hve];simp)).2
      |nil=>exact absurd ⟨hue,hve⟩ h0
    have HC1:=ae (HX1.out hrg);have HC2:=ae (HX2.out hrg)
    have hlen:(us.length:Int)≠0\/((us.length:Int)=0/\(vs.length:Int)≠0):=by
     by_cases q:us.length=0
     ·refine .inr ⟨by omega,fun e=>h0 ⟨aC q,aC (by omega)⟩⟩
     ·exact .inl (by omega)
    clear h0 hrg;obtain⟨n1,hn1⟩:∃n1,us.length=n1:=⟨_,rfl⟩;obtain⟨n2,hn2⟩:∃n2,vs.length=n2:=⟨_,rfl⟩;rw[hn1,hn2] at hlen HC1 HC2 ⊢;clear hn1 hn2;have fin:∀(W:World) (hW:Below w.heap.size w W) (r:Int),acB g a b=r->(Ending.returned (.tuple #[.int .i64 r,.int .i64 0])= .returned (aq6 g a b)/\Below w.heap.size w W):=fun W hW r hr=>⟨by rw[HV.out,hr],hW⟩;have FIN:=ae fin;clear fin
    rcases hlen with hq|⟨hq1,hq2⟩
    ·have hq':((n1:Int)==0)=false:=by simpa using hq
     clear hq
     go_wp2_with fail
     refine HC1.out.mono ?_;rintro e w4 ⟨rfl,hb4⟩;have HC2b:=ae (HC2.out w4 hb4);have HB4:=ae (HB3.out.trans (hb4.mono HB3.out.size));clear hb4;cases hx1:exB g us vs with
     |true=>
      have HZ:=ae (show acB g a b=1 from by rw[HR2.out,hx1];rfl);clear hx1;go_wp2;refine bodyPost_ret (v:= .tuple #[.int .i64 1,.int .i64 0]) (by simp[results,Tryz.results192,go_sem]) rfl ?_;exact FIN.out _ HB4.out 1 HZ.out
     |false=>
      have HX:=ae hx1;clear hx1
      go_wp2_with fail
      refine HC2b.out.mono ?_;rintro e w5 ⟨rfl,hb5⟩;have HB5:=ae (HB4.out.trans (hb5.mono HB4.out.size));clear hb5;cases hx2:exB g vs us with
      |true=>
       have HZ:=ae (show acB g a b= -1 from by rw[HR2.out,HX.out,hx2];rfl);clear hx2;go_wp2;refine bodyPost_ret (v:= .tuple #[.int .i64 (-1),.int .i64 0]) (by simp[results,Tryz.results192,go_sem]) rfl ?_;exact FIN.out _ HB5.out (-1) HZ.out
      |false=>
       have HZ:=ae (show acB g a b=2 from by rw[HR2.out,HX.out,hx2];rfl);clear hx2;go_wp2;refine bodyPost_ret (v:= .tuple #[.int .i64 2,.int .i64 0]) (by simp[results,Tryz.results192,go_sem]) rfl ?_;exact FIN.out _ HB5.out 2 HZ.out
    ·have hq':((n2:Int)==0)=false:=by simpa using hq2
     have hq0:n1=0:=by omega
     subst hq0;clear hq2 hq1
     go_wp2_with fail
     refine HC1.out.mono ?_;rintro e w4 ⟨rfl,hb4⟩;have HC2b:=ae (HC2.out w4 hb4);have HB4:=ae (HB3.out.trans (hb4.mono HB3.out.size));clear hb4;cases hx1:exB g us vs with
     |true=>
      have HZ:=ae (show acB g a b=1 from by rw[HR2.out,hx1];rfl);clear hx1;go_wp2;refine bodyPost_ret (v:= .tuple #[.int .i64 1,.int .i64 0]) (by simp[results,Tryz.results192,go_sem]) rfl ?_;exact FIN.out _ HB4.out 1 HZ.out
     |false=>
      have HX:=ae hx1;clear hx1
      go_wp2_with fail
      refine HC2b.out.mono ?_;rintro e w5 ⟨rfl,hb5⟩;have HB5:=ae (HB4.out.trans (hb5.mono HB4.out.size));clear hb5;cases hx2:exB g vs us with
      |true=>
       have HZ:=ae (show acB g a b= -1 from by rw[HR2.out,HX.out,hx2];rfl);clear hx2;go_wp2;refine bodyPost_ret (v:= .tuple #[.int .i64 (-1),.int .i64 0]) (by simp[results,Tryz.results192,go_sem]) rfl ?_;exact FIN.out _ HB5.out (-1) HZ.out
      |false=>
       have HZ:=ae (show acB g a b=2 from by rw[HR2.out,HX.out,hx2];rfl);clear hx2;go_wp2;refine bodyPost_ret (v:= .tuple #[.int .i64 2,.int .i64 0]) (by simp[results,Tryz.results192,go_sem]) rfl ?_;exact FIN.out _ HB5.out 2 HZ.out
  ·have HV:=ae (show aq6 g a b= .tuple #[.int .i64 0,.int .i64 (abM g b)] from by unfold aq6;rw[if_pos HE1.out,if_neg h2]);obtain⟨r,hr⟩:∃r,abM g b=r:=⟨_,rfl⟩;rw[hr] at HV h2 ⊢;have h3:(r != 0)=true:=by simpa using h2
   clear h2 hr;go_wp2;refine bodyPost_ret (v:= .tuple #[.int .i64 0,.int .i64 r]) (by simp[results,Tryz.results192,go_sem]) rfl ?_;exact⟨by rw[HV.out],HB2.out⟩
 ·have HV:=ae (show aq6 g a b= .tuple #[.int .i64 0,.int .i64 (abM g a)] from by unfold aq6;rw[if_neg h1]);obtain⟨r,hr⟩:∃r,abM g a=r:=⟨_,rfl⟩;rw[hr] at HV h1 ⊢;have h3:(r != 0)=true:=by simpa using h1
  clear h1 hr;go_wp2;refine bodyPost_ret (v:= .tuple #[.int .i64 0,.int .i64 r]) (by simp[results,Tryz.results192,go_sem]) rfl ?_;exact⟨by rw[HV.out],HB1.out⟩
theorem T.head_node(h:Int)(ts:List T):(T.node h ts).head=h:=rfl
def T.heads(t:T):List Int:=(T.subs 1 t).map (fun x=>x.2.head)
mutual
theorem agy(l l':Nat):(t:T)->(T.subs l t).map (fun x=>x.2.head)=(T.subs l' t).map (fun x=>x.2.head)
 | .node h ts=>by simp only[T.subs,List.map_cons];rw[afq (l+1) (l'+1) ts]
theorem afq(l l':Nat):(ts:List T)->(T.subss l ts).map (fun x=>x.2.head)=(T.subss l' ts).map (fun x=>x.2.head)
 |[]=>rfl
 |t::ts=>by simp only[T.subss,List.map_append];rw[agy l l' t,afq l l' ts]
end
theorem T.heads_eq(t:T):t.heads=t.head::(t.args.map T.heads).flatten:=by
 unfold T.heads;rw[T.subs_eq,List.map_cons]
 congr 1
 have:∀ts:List T,(T.subss 2 ts).map (fun x=>x.2.head)=(ts.map (fun t=>(T.subs 1 t).map (fun x=>x.2.head))).flatten:=by
  intro ts
  induction ts with
  |nil=>rfl
  |cons t ts ih=>simp only[T.subss,List.map_append,List.map_cons,List.flatten_cons];rw[ih,agy 2 1 t]
 exact this t.args
theorem aeY(pre:List (Nat×T))(v:Int):v∈varsOf pre↔∃x∈pre,x.2.head<0/\v= -1-x.2.head:=by
 suffices h:∀(pre:List (Nat×T)) (acc:List Int),v∈pre.foldl varStep acc↔v∈acc\/∃x∈pre,x.2.head<0/\v= -1-x.2.head by
  have:=h pre [];simpa[varsOf] using this
 intro pre
 induction pre with
 |nil=>intro acc;simp
 |cons x pre ih=>
  intro acc;rw[List.foldl_cons,ih]
  have:v∈varStep acc x↔v∈acc\/(x.2.head<0/\v= -1-x.2.head):=by
   unfold varStep;split
   ·rename_i h0;split
    ·rename_i hc;constructor
     ·exact .inl
     ·rintro(h|⟨_,rfl⟩)
      ·exact h
      ·simpa using hc
    ·simp[h0]
   ·rename_i h0;simp[h0]
  rw[this];simp only[List.mem_cons,exists_eq_or_imp];constructor
  ·rintro((h|h)|h)
   ·exact .inl h
   ·exact .inr (.inl h)
   ·exact .inr (.inr h)
  ·rintro(h|h|h)
   ·exact .inl (.inl h)
   ·exact .inl (.inr h)
   ·exact .inr h
theorem ai3(t:T)(v:Int):v∈varsOf (T.subs 1 t)↔∃h∈t.heads,h<0/\v= -1-h:=by
 rw[aeY];unfold T.heads;simp only[List.mem_map];constructor
 ·rintro⟨x,hx,h1,h2⟩;exact⟨_,⟨x,hx,rfl⟩,h1,h2⟩
 ·rintro⟨_,⟨x,hx,rfl⟩,h1,h2⟩;exact⟨x,hx,h1,h2⟩
theorem aaZ{t:T}(h:bad (T.subs 1 t)=false)(hn:t.head<0):t.args=[]:=by
 have:=aaI h;simp only[okB,if_pos hn,Bool.and_eq_true,decide_eq_true_iff] at this;exact aC this.1
theorem akm(f:Int->T):∀(N:Nat) (t:T),t.size<=N->bad (T.subs 1 t)=false->∀h,h<0->(h∈(t.sub f).heads↔∃g∈t.heads,g<0/\h∈(f (-1-g)).heads):=by
 intro N
 induction N with
 |zero=>intro t ht;have:=T.size_pos t;omega
 |succ N ih=>
  intro t ht hg h hh;by_cases q:t.head<0
  ·rw[T.sub_neg q];have ha:=aaZ hg q;rw[T.heads_eq t,ha];simp[q]
  ·rw[T.sub_pos q,T.heads_eq,T.heads_eq t];simp only[T.head_node,T.args_node,List.mem_cons,List.mem_flatten,List.mem_map,List.map_map];constructor
   ·rintro(h1|⟨l,⟨s,hs,rfl⟩,hl⟩)
    ·have:h=t.head:=h1;omega
    ·obtain⟨i,hi⟩:=au hs;obtain⟨g,hg1,hg2,hg3⟩:=(ih s (by have:=T.size_lt_of_mem hi;have:=T.size_eq t;omega) (aaA hg hi) h hh).1 hl;exact⟨g,.inr ⟨_,⟨s,hs,rfl⟩,hg1⟩,hg2,hg3⟩
   ·rintro⟨g,h1|⟨l,⟨s,hs,rfl⟩,hl⟩,hg2,hg3⟩
    ·have:g=t.head:=h1;omega
    ·obtain⟨i,hi⟩:=au hs;exact .inr ⟨_,⟨s,hs,rfl⟩,(ih s (by have:=T.size_lt_of_mem hi;have:=T.size_eq t;omega) (aaA hg hi) h hh).2 ⟨g,hl,hg2,hg3⟩⟩
theorem sub_self(f:Int->T):∀(N:Nat) (t:T),t.size<=N->bad (T.subs 1 t)=false->(∀g∈t.heads,g<0->f (-1-g)=vt (-1-g))->t.sub f=t:=by
 intro N
 induction N with
 |zero=>intro t ht;have:=T.size_pos t;omega
 |succ N ih=>
  intro t ht hg hf;by_cases q:t.head<0
  ·rw[T.sub_neg q,hf t.head (by rw[T.heads_eq];simp) q];have ha:=aaZ hg q
   conv=>rhs;rw[←T.eta t,ha]
   simp only[vt]
   congr 1
   omega
  ·rw[T.sub_pos q]
   conv=>rhs;rw[←T.eta t]
   congr 1
   conv=>rhs;rw[←List.map_id t.args]
   apply List.map_congr_left;intro s hs;obtain⟨i,hi⟩:=au hs;exact ih s (by have:=T.size_lt_of_mem hi;have:=T.size_eq t;omega) (aaA hg hi) (fun g hg1 hg2=>hf g (by rw[T.heads_eq];exact aH _ (List.mem_flatten.2 ⟨_,List.mem_map.2 ⟨s,hs,rfl⟩,hg1⟩)) hg2)
def muR(g:Sg)(a b:List T):Int:=if abM g a=0 then(if abM g b=0 then acB g a b else 0) else 0
def muE(g:Sg)(a b:List T):Int:=if abM g a=0 then abM g b else abM g a
theorem atX(g:Sg)(a b:List T):aq6 g a b= .tuple #[.int .i64 (muR g a b),.int .i64 (muE g a b)]:=by
 unfold aq6 muR muE;by_cases h:abM g a=0
 ·rw[if_pos h,if_pos h,if_pos h];by_cases h':abM g b=0
  ·rw[if_pos h',if_pos h',h']
  ·rw[if_neg h',if_neg h']
 ·rw[if_neg h,if_neg h,if_neg h]
theorem ah0{g:Sg}{t:T}(h:aaH g t=0):aan g=true:=(aaR h).1
theorem adE{g:Sg}{t:T}(h:aaH g t=0):bad (T.subs 1 t)=false:=(aam (aaR h).2.1).2.2
theorem afP{g:Sg}{t:T}(h:aaH g t=0):OkT g t:=(atA (ah0 h)).1 h
theorem apf(t:T):t.heads=t.hds:=by
 refine anE (F:=T.heads) (fun t=> ?_) t.size t (af _);rw[T.heads_eq]
theorem agz(g:Sg)(t:T)(ts:List T):abM g (t::ts)=if aaH g t≠0 then aaH g t else abM g ts:=rfl
theorem amJ{g:Sg}{t:T}:abM g [t]=aaH g t:=by
 rw[agz];by_cases h:aaH g t=0
 ·rw[if_neg (fun e=>e h),h];rfl
 ·rw[if_pos h]
theorem ai4(g:Sg):∀(a b:List T),abM g (a++b)=if abM g a=0 then abM g b else abM g a
 |[],b=>rfl
 |t::a,b=>by
  rw[List.cons_append,agz,agz];by_cases h:aaH g t=0
  ·have h':¬aaH g t≠0:=fun e=>e h;simp only[if_neg h',ai4 g a b]
  ·simp only[if_pos h,if_neg h]
theorem agA{g:Sg}{a b:T}(ha:aaH g a=0)(hb:aaH g b=0):abM g [a,b]=0:=by
 have:abM g ([a]++[b])=0:=by rw[ai4,amJ,amJ,if_pos ha,hb]
 exact this
def ace(g:Sg)(l r:T):Int:=if aap g l.head then(if r.head=0 then 0 else 10) else if aap g r.head then 10 else 0
def abn(g:Sg)(l r:T):Int:=if aaH g l≠0 then aaH g l else if aaH g r≠0 then aaH g r else ace g l r
theorem ai5{g:Sg}{l r:T}(h:abn g l r=0):aaH g l=0/\aaH g r=0/\ace g l r=0:=by
 unfold abn at h;by_cases q:aaH g l=0
 ·rw[if_neg (fun e=>e q)] at h;by_cases q':aaH g r=0
  ·rw[if_neg (fun e=>e q')] at h;exact⟨q,q',h⟩
  ·rw[if_pos q'] at h;exact absurd h q'
 ·rw[if_pos q] at h;exact absurd h q
theorem apg{g:Sg}{l r:T}(h1:aaH g l=0)(h2:aaH g r=0)(h3:ace g l r=0):abn g l r=0:=by
 unfold abn;rw[if_neg (fun e=>e h1),if_neg (fun e=>e h2),h3]
theorem akn{g:Sg}{l r:T}(h:aaH g l≠0):abn g l r=aaH g l:=by unfold abn;rw[if_pos h]
theorem ah1{g:Sg}{l r:T}(h1:aaH g l=0)(h2:aaH g r≠0):abn g l r=aaH g r:=by
 unfold abn;rw[if_neg (fun e=>e h1),if_pos h2]
theorem ako{g:Sg}{l r:T}(h1:aaH g l=0)(h2:aaH g r=0):abn g l r=ace g l r:=by
 unfold abn;rw[if_neg (fun e=>e h1),if_neg (fun e=>e h2)]
def au3(l r l' r':T):Bool:=(ac4 l l'&&ac4 r r')||(ac4 l r'&&ac4 r l')
theorem arI{l r l' r':T}:au3 l r l' r'=true↔acC l r l' r':=by
 simp only[au3,acC,Bool.or_eq_true,Bool.and_eq_true,aeo]
def avp(n:Bool)(l r:T)(n':Bool)(l' r':T):Bool:=n==n'&&au3 l r l' r'
theorem amK{g:Sg}{n:Bool}{l r:T}(h1:aaH g l=0)(h2:aaH g r=0):abM g (aeM n l r)=0:=by
 cases n
 ·exact agA h1 h2
 ·show abM g ([l,l]++[r,r])=0;rw[ai4,agA h1 h1,if_pos rfl,agA h2 h2]
def agB(aM:Nat)(W:World)(rs:List (List Int))(a:Option Addr)(c:Nat):Prop:=
 rs.length<=c/\c<=maxLen/\(rs=[]\/∃b o,a=some ⟨b,o,none⟩/\b<aM/\∀(j:Nat) (x:List Int),rs[j]? =some x->∃a' c',W.cell? ⟨b,o+j,none⟩=some (.slice a' x.length c')/\acP aM W x a' c')
theorem agB.below{aM:Nat}{w w':World}{rs:List (List Int)}{a:Option Addr}{c:Nat}(h:agB aM w rs a c)(hb:Below aM w w'):agB aM w' rs a c:=by
 obtain⟨h1,h2,h3⟩:=h;refine⟨h1,h2,?_⟩
 rcases h3 with h3|⟨b,o,h4,h5,h6⟩
 ·exact .inl h3
 ·refine .inr ⟨b,o,h4,h5,fun j x hx=> ?_⟩;obtain⟨a',c',p0,p1⟩:=h6 j x hx;exact⟨a',c',(hb.cell (p:=⟨b,_,none⟩) h5).trans p0,p1.below hb⟩
theorem agB.mono{aM aN:Nat}{w:World}{rs:List (List Int)}{a:Option Addr}{c:Nat}(h:agB aM w rs a c)(hn:aM<=aN):agB aN w rs a c:=by
 obtain⟨h1,h2,h3⟩:=h;refine⟨h1,h2,?_⟩
 rcases h3 with h3|⟨b,o,h4,h5,h6⟩
 ·exact .inl h3
 ·refine .inr ⟨b,o,h4,by omega,fun j x hx=> ?_⟩;obtain⟨a',c',p0,p1⟩:=h6 j x hx;exact⟨a',c',p0,p1.mono hn⟩
theorem agB.elem{aM:Nat}{w:World}{rs:List (List Int)}{a:Option Addr}{c:Nat}(h:agB aM w rs a c){i:Nat}(hi:i<rs.length):
 ∃(b o:Nat) (x:List Int) (a':Option Addr) (c':Nat),a=some ⟨b,o,none⟩/\b<aM/\rs[i]? =some x/\w.cell? ⟨b,o+i,none⟩=some (.slice a' x.length c')/\acP aM w x a' c':=by
 obtain⟨_,_,h3⟩:=h
 rcases h3 with rfl|⟨b,o,rfl,h4,h5⟩
 ·simp at hi
 ·obtain⟨a',c',p0,p1⟩:=h5 i _ (ai hi);exact⟨b,o,rs[i],a',c',rfl,h4,ai hi,p0,p1⟩
structure Ip where
 size:Int
 rows:List (List Int)
def abz(z:Int):Nat->Int
 |0=>1
 |n+1=>abz z n*z
def ai6(z:Int)(x:Sy):Int:=if x.tr then 2 else z
def atY(z:Int)(x:Sy)(r:List Int):Bool:=decide (x.ar<=4)&&decide ((r.length:Int)=abz z x.ar.toNat)&&r.all (fun k=>decide (0<=k/\k<ai6 z x))
def rowAt(g:Sg)(m:Ip)(i:Nat):Bool:=match g[i]?,m.rows[i]? with
 |some x,some r=>atY m.size x r
 |_,_=>false
def akp:List (List Int)->Int
 |(k::_)::_=>k
 |_=>0
def abg(g:Sg)(m:Ip):Bool:=
 aan g&&decide (1<=m.size)&&decide (m.size<=4)&&decide (m.rows.length=g.length)&&(List.range g.length).all (rowAt g m)&&decide (akp m.rows=1)
mutual
def aby(m:Ip)(f:List Int):T->Int
 | .node h ts=>if h<0 then f.getD (-1-h).toNat 0 else(m.rows.getD h.toNat []).getD (adF m f 0 ts).toNat 0
def adF(m:Ip)(f:List Int)(i:Int):List T->Int
 |[]=>i
 |t::ts=>adF m f (i*m.size+aby m f t) ts
end
theorem adr(m:Ip)(f:List Int)(t:T):aby m f t=if t.head<0 then f.getD (-1-t.head).toNat 0 else(m.rows.getD t.head.toNat []).getD (adF m f 0 t.args).toNat 0:=by cases t;rfl
def agC(m:Ip)(f:List Int)(n:Bool)(l r:T):Bool:=decide (aby m f l=aby m f r) != n
theorem agD{z:Int}{n:Nat}(h1:1<=z)(h2:z<=4)(hn:n<=4):1<=abz z n/\abz z n<=256:=by
 have hz:z=1\/z=2\/z=3\/z=4:=by omega
 have hn':n=0\/n=1\/n=2\/n=3\/n=4:=by omega
 rcases hz with rfl|rfl|rfl|rfl<;>rcases hn' with rfl|rfl|rfl|rfl|rfl<;>decide
theorem aa0{g:Sg}{m:Ip}(h:abg g m=true):aan g=true/\1<=m.size/\m.size<=4/\m.rows.length=g.length/\(∀(i:Nat) (x:Sy),g[i]? =some x->∃r,m.rows[i]? =some r/\x.ar<=4/\(r.length:Int)=abz m.size x.ar.toNat/\∀k∈r,0<=k/\k<ai6 m.size x)/\akp m.rows=1:=by
 unfold abg at h;simp only[Bool.and_eq_true,decide_eq_true_eq,List.all_eq_true,List.mem_range] at h;obtain⟨⟨⟨⟨⟨h1,h2⟩,h3⟩,h4⟩,h5⟩,h6⟩:=h;refine⟨h1,h2,h3,h4,fun i x hx=> ?_,h6⟩;have hi:=(ah.1 hx).1;have:=h5 i hi;unfold rowAt at this;rw[hx] at this;cases hr:m.rows[i]? with
 |none=>rw[hr] at this;cases this
 |some r=>
  rw[hr] at this;simp only[atY,Bool.and_eq_true,decide_eq_true_eq,List.all_eq_true] at this;exact⟨r,rfl,this.1.1,this.1.2,this.2⟩
theorem agE(m:Ip)(f:List Int):∀(ts us:List T) (i:Int),adF m f i (ts++us)=adF m f (adF m f i ts) us
 |[],us,i=>by rw[adF];rfl
 |t::ts,us,i=>by
  rw[List.cons_append,adF,adF];exact agE m f ts us _
theorem akq{m:Ip}{f:List Int}{ts:List T}{k:Nat}{t:T}(h:ts[k]? =some t):adF m f 0 (ts.take (k+1))=adF m f 0 (ts.take k)*m.size+aby m f t:=by
 obtain⟨hk,rfl⟩:=ah.1 h;rw[List.take_add_one,h,agE];rfl
def OkV(g:Sg)(t:T):Prop:=aaL g t=true/\bad (T.subs 1 t)=false/\abu g t.args=false
theorem amL{g:Sg}{t:T}(h:aaH g t=0):OkV g t:=by
 obtain⟨_,r2,r3,r4⟩:=aaR h;exact⟨r3,(aam r2).2.2,r4⟩
theorem alI{g:Sg}{t s:T}(h:OkV g t)(hs:s∈t.args):OkV g s/\aap g s.head=false:=by
 obtain⟨h1,h2,h3⟩:=h;obtain⟨k1,k2⟩:=acb h1 h2 s hs;rw[aaY,List.any_eq_false] at h3;have:=h3 s hs;rw[abc,Bool.not_eq_true,Bool.or_eq_false_iff] at this;exact⟨⟨k1,k2,this.2⟩,this.1⟩
theorem aph{g:Sg}{t:T}(h:OkV g t)(h0:0<=t.head):∃x,g[t.head.toNat]? =some x/\(t.args.length:Int)=x.ar/\aap g t.head=x.tr:=by
 obtain⟨h1,_,_⟩:=h;rw[aa4] at h1
 have h1':acU g t.head t.args.length=true:=by
  cases ha:acU g t.head t.args.length with
  |true=>rfl
  |false=>rw[ha] at h1;simp at h1;omega
 unfold acU at h1';cases hx:g[t.head.toNat]? with
 |none=>rw[hx] at h1';simp at h1';omega
 |some x=>
  rw[hx] at h1';refine⟨x,rfl,?_,?_⟩
  ·simp at h1';omega
  ·unfold aap;rw[hx];simp[h0]
theorem avq{a b p z:Int}(h0:0<=a)(h:a<p)(hz:1<=z)(hb:0<=b)(hb2:b<z):0<=a*z+b/\a*z+b<p*z:=by
 have h1:0<=a*z:=Int.mul_nonneg h0 (by omega);have h2:(a+1)*z<=p*z:=Int.mul_le_mul_of_nonneg_right (by omega) (by omega);rw[Int.add_mul,Int.one_mul] at h2;omega
theorem ah2{g:Sg}{m:Ip}{f:List Int}(hz:1<=m.size):∀{ts:List T},(∀s∈ts,0<=aby m f s/\aby m f s<m.size)->∀k,k<=ts.length->0<=adF m f 0 (ts.take k)/\adF m f 0 (ts.take k)<abz m.size k:=by
 intro ts h k
 induction k with
 |zero=>intro _;simp[adF,abz]
 |succ k ih=>
  intro hk;obtain⟨i1,i2⟩:=ih (by omega);have hg:ts[k]? =some ts[k]:=ai (by omega);obtain⟨v1,v2⟩:=h _ (ak hg);rw[akq hg];exact avq i1 i2 hz v1 v2
theorem adG{l:List Int}{i:Nat}(h:i<l.length):l.getD i 0∈l:=by
 rw[List.getD_eq_getElem?_getD,ai h];exact List.getElem_mem h
theorem ah3{g:Sg}{m:Ip}(hm:abg g m=true){f:List Int}(hf:∀z∈f,0<=z/\z<m.size):∀(N:Nat) (t:T),t.size<=N->OkV g t->0<=aby m f t/\(aap g t.head=false->aby m f t<m.size):=by
 obtain⟨m1,m2,m3,m4,m5,m6⟩:=aa0 hm;intro N
 induction N with
 |zero=>intro t ht;have:=T.size_pos t;omega
 |succ N ih=>
  intro t ht hok;rw[adr];by_cases h0:t.head<0
  ·rw[if_pos h0];by_cases hl:(-1-t.head).toNat<f.length
   ·exact⟨(hf _ (adG hl)).1,fun _=>(hf _ (adG hl)).2⟩
   ·rw[List.getD_eq_getElem?_getD,List.getElem?_eq_none (by omega)];exact⟨by simp,fun _=>by simp;omega⟩
  ·rw[if_neg h0];obtain⟨x,hx,ha,hp⟩:=aph hok (by omega);obtain⟨r,hr,r1,r2,r3⟩:=m5 _ _ hx
   have hargs:∀s∈t.args,0<=aby m f s/\aby m f s<m.size:=fun s hs=>by
    obtain⟨i,hi⟩:=au hs;have h1:=T.size_lt_of_mem hi;have h2:=T.size_eq t;obtain⟨q1,q2⟩:=alI hok hs;obtain⟨q3,q4⟩:=ih s (by omega) q1;exact⟨q3,q4 q2⟩
   have hv:=ah2 (g:=g) m2 hargs t.args.length (af _);rw[List.take_length] at hv;rw[show x.ar.toNat=t.args.length from by omega] at r2;have hmem:r.getD (adF m f 0 t.args).toNat 0∈r:=adG (by omega);rw[List.getD_eq_getElem?_getD (l:=m.rows),hr];refine⟨(r3 _ hmem).1,fun hq=> ?_⟩;have:=(r3 _ hmem).2;unfold ai6 at this;rw[←hp,hq] at this;exact this
def aad(c:List Lt3):List T:=(c.map fun x=>[x.l,x.r]).flatten
def api(g:Sg):List Lt3->Int
 |[]=>0
 |x::c=>if abn g x.l x.r≠0 then abn g x.l x.r else api g c
def aaN(g:Sg)(c:List Lt3):Int:=if aan g then(if 32<c.length then 2 else api g c) else 1
theorem alJ{g:Sg}:∀{c:List Lt3},api g c=0↔∀x∈c,abn g x.l x.r=0
 |[]=>by simp[api]
 |x::c=>by
  rw[api];by_cases h:abn g x.l x.r=0
  ·rw[if_neg (fun e=>e h),alJ];simp[h]
  ·rw[if_pos h];simp[h]
theorem aba{g:Sg}{c:List Lt3}(h:aaN g c=0):aan g=true/\c.length<=32/\∀x∈c,abn g x.l x.r=0:=by
 unfold aaN at h;by_cases h1:aan g=true
 ·rw[if_pos h1] at h;by_cases h2:32<c.length
  ·rw[if_pos h2] at h;cases h
  ·rw[if_neg h2] at h;exact⟨h1,by omega,alJ.1 h⟩
 ·rw[if_neg h1] at h;cases h
theorem ai7{g:Sg}{c:List Lt3}(h1:aan g=true)(h2:c.length<=32)(h3:∀x∈c,abn g x.l x.r=0):aaN g c=0:=by
 unfold aaN;rw[if_pos h1,if_neg (by omega)];exact alJ.2 h3
def acF(a b:Lt3):Bool:=avp a.neg a.l a.r b.neg b.l b.r
theorem aeZ{a b:Lt3}:acF a b=true↔sameL a b:=by
 unfold acF avp sameL;rw[Bool.and_eq_true,beq_iff_eq,arI]
def afr(g:Sg)(a b:Lt3):Int:=acB g a.row b.row
def Cs(b:Nat)(cs:List Value)(X:World):Prop:=b<X.heap.size/\∀i u,cs[i]? =some u->X.cell? ⟨b,i,none⟩=some u
theorem abR(W:World)(cs:Array Value)(ty:TypeId):aai (Cs W.heap.size cs.toList) (W.alloc (.cells cs ty)):=fun X hX=>
 ⟨by have:=hX.size;simp at this;omega,fun i u hu=>(hX.cell (p:=⟨W.heap.size,i,none⟩) (by simp)).trans (by
  have h:=MapKept.heap_alloc W (.cells cs ty);simp only[World.cell?,h.1];simpa using hu)⟩
theorem aai.pushC{F:World->Prop}{W W':World}(k:aai F W)(hb:Below W.heap.size W W')(cs:Array Value)(ty:TypeId):aai (fun X=>Cs W'.heap.size cs.toList X/\F X) (W'.alloc (.cells cs ty)):=
 (k.mv (hb.alloc hb.size _)).and (abR W' cs ty)
theorem aai.step{F:World->Prop}{W W':World}(k:aai F W)(hb:Below W.heap.size W W'):aai F W':=k.mv hb
structure LV where
 n:Bool
 l:T
 r:T
 pa:Option Addr
 ca:Nat
 pb:Option Addr
 cb:Nat
abbrev LV.v(x:LV):Value:= .agg #[.bool x.n,.int .i64 x.l.head,.slice x.pa x.l.args.length x.ca,.int .i64 x.r.head,.slice x.pb x.r.args.length x.cb]
abbrev LV.obj(x:LV):Obj:= .cells #[.bool x.n,.int .i64 x.l.head,.slice x.pa x.l.args.length x.ca,.int .i64 x.r.head,.slice x.pb x.r.args.length x.cb] 62
def Lc(b:Nat)(x:LV)(X:World):Prop:=
 X.cell? ⟨b,0,none⟩=some (.bool x.n)/\X.cell? ⟨b,1,none⟩=some (.int .i64 x.l.head)/\X.cell? ⟨b,2,none⟩=some (.slice x.pa x.l.args.length x.ca)/\X.cell? ⟨b,3,none⟩=some (.int .i64 x.r.head)/\X.cell? ⟨b,4,none⟩=some (.slice x.pb x.r.args.length x.cb)
theorem abS(W:World)(x:LV):aai (Lc W.heap.size x) (W.alloc x.obj):=fun X hX=>
 ⟨(hX.cell (p:=⟨W.heap.size,0,none⟩) (by simp)).trans (by simp[go_sem]),(hX.cell (p:=⟨W.heap.size,1,none⟩) (by simp)).trans (by simp[go_sem]),(hX.cell (p:=⟨W.heap.size,2,none⟩) (by simp)).trans (by simp[go_sem]),
   (hX.cell (p:=⟨W.heap.size,3,none⟩) (by simp)).trans (by simp[go_sem]),(hX.cell (p:=⟨W.heap.size,4,none⟩) (by simp)).trans (by simp[go_sem])⟩
theorem aai.pushL{F:World->Prop}{W W':World}(k:aai F W)(hb:Below W.heap.size W W')(x:LV):aai (fun X=>Lc W'.heap.size x X/\F X) (W'.alloc x.obj):=
 (k.mv (hb.alloc hb.size _)).and (abS W' x)
structure aa1 (aM:Nat) (w:World) (x:LV):Prop where
 lw:(Lit.int .i64 x.l.head).wf=true
 rw:(Lit.int .i64 x.r.head).wf=true
 la:aab aM w x.l.args x.pa x.ca
 ra:aab aM w x.r.args x.pb x.cb
theorem aa1.below{aM:Nat}{w w':World}{x:LV}(h:aa1 aM w x)(hb:Below aM w w'):aa1 aM w' x:=⟨h.lw,h.rw,h.la.below hb,h.ra.below hb⟩
theorem aa1.mono{aM aN:Nat}{w:World}{x:LV}(h:aa1 aM w x)(hn:aM<=aN):aa1 aN w x:=⟨h.lw,h.rw,h.la.mono hn,h.ra.mono hn⟩
theorem abT{W:World}{x:LV}(h:aa1 W.heap.size W x):aai (fun X=>aa1 X.heap.size X x) W:=fun X hX=>(h.below hX).mono hX.size
def LV.sz(x:LV):Prop:=x.l.size<=1000000000000/\x.r.size<=1000000000000
def LV.turn(x:LV):LV:=⟨x.n,x.r,x.l,x.pb,x.cb,x.pa,x.ca⟩
theorem aa1.turn{aM:Nat}{w:World}{x:LV}(h:aa1 aM w x):aa1 aM w x.turn:=⟨h.rw,h.lw,h.ra,h.la⟩
end Go.Proofs.YtabfapijgfjflaaGreat
