import Derived.Test.YtabfapijgfjflaaGreatMQBk
import Derived.Test.YtabfapijgfjflaaGreatMQBc
import Derived.BigQuiet
import Derived.Deep.QuietTactic
import Derived.Deep.RegionLaw
import Derived.Deep.RegionHeld3
import Derived.Test.YtabfapijgfjflaaGreatMQBd
import Derived.Deep.CutRange
import Derived.Deep.AppendLies
import Derived.Test.YtabfapijgfjflaaGreatMQBj
import Derived.Test.YtabfapijgfjflaaGreatMAl
set_option linter.unusedVariables false
set_option linter.unusedSimpArgs false
set_option maxRecDepth 100000
set_option maxHeartbeats 8000000
namespace Go.Proofs.YtabfapijgfjflaaGreat
open Go.RowKit
abbrev ClV(g:Sg)(ga:Option Addr)(gc:Nat)(x:LV):Value:= .agg #[.slice ga g.length gc,.bool x.n,.int .i64 x.l.head,.slice x.pa x.l.args.length x.ca,.int .i64 x.r.head,.slice x.pb x.r.args.length x.cb]
abbrev ClO(g:Sg)(ga:Option Addr)(gc:Nat)(x:LV):Obj:= .cells #[.slice ga g.length gc,.bool x.n,.int .i64 x.l.head,.slice x.pa x.l.args.length x.ca,.int .i64 x.r.head,.slice x.pb x.r.args.length x.cb] 134
def Clc(b:Nat)(g:Sg)(ga:Option Addr)(gc:Nat)(x:LV)(X:World):Prop:=
 X.cell? ⟨b,0,none⟩=some (.slice ga g.length gc)/\X.cell? ⟨b,1,none⟩=some (.bool x.n)/\X.cell? ⟨b,2,none⟩=some (.int .i64 x.l.head)/\X.cell? ⟨b,3,none⟩=some (.slice x.pa x.l.args.length x.ca)/\X.cell? ⟨b,4,none⟩=some (.int .i64 x.r.head)/\X.cell? ⟨b,5,none⟩=some (.slice x.pb x.r.args.length x.cb)
theorem apr(W:World)(g:Sg)(ga:Option Addr)(gc:Nat)(x:LV):aai (Clc W.heap.size g ga gc x) (W.alloc (ClO g ga gc x)):=fun X hX=>
 ⟨(hX.cell (p:=⟨W.heap.size,0,none⟩) (by simp)).trans (by simp[go_sem]),(hX.cell (p:=⟨W.heap.size,1,none⟩) (by simp)).trans (by simp[go_sem]),(hX.cell (p:=⟨W.heap.size,2,none⟩) (by simp)).trans (by simp[go_sem]),
   (hX.cell (p:=⟨W.heap.size,3,none⟩) (by simp)).trans (by simp[go_sem]),(hX.cell (p:=⟨W.heap.size,4,none⟩) (by simp)).trans (by simp[go_sem]),(hX.cell (p:=⟨W.heap.size,5,none⟩) (by simp)).trans (by simp[go_sem])⟩
theorem aai.pushCl{F:World->Prop}{W W':World}(k:aai F W)(hb:Below W.heap.size W W')(g:Sg)(ga:Option Addr)(gc:Nat)(x:LV):aai (fun X=>Clc W'.heap.size g ga gc x X/\F X) (W'.alloc (ClO g ga gc x)):=
 (k.mv (hb.alloc hb.size _)).and (apr W' g ga gc x)
theorem anY(g:Sg)(x:LV)(hx:x.sz)(aM:Nat)(ga:Option Addr)(gc:Nat)(w:World)(hn:aM<=w.heap.size)(hG:aaX aM w g ga gc)(hX:aa1 aM w x):
 Calls Tryz.prog 92 #[ClV g ga gc x] w fun e w'=>e= .returned (.int .i64 (aaH g x.l))/\Below w.heap.size w w':=by
 have hF:Below w.heap.size w (w.alloc (ClO g ga gc x)):=(ag _ w).alloc (af _) _;have hX1:=hX.below (hF.mono hn);have C:=ae (adC g x.l hx.1 aM ga gc x.pa x.ca (w.alloc (ClO g ga gc x)) (by simp;omega) (hG.below (hF.mono hn)) hX.lw hX1.la);have HF:=ae hF;clear hX hF hX1 hG;go_enter Tryz.func92,Tryz.ntmps92
 go_wp2_with fail
 refine C.out.mono ?_;rintro e w2 ⟨rfl,hb⟩;have HB:=ae (HF.out.trans (hb.mono HF.out.size));clear hb;go_wp2;go_ret;exact⟨rfl,HB.out⟩
theorem alT(g:Sg)(x:LV)(hx:x.sz)(aM:Nat)(ga:Option Addr)(gc:Nat)(w:World)(hn:aM<=w.heap.size)(hG:aaX aM w g ga gc)(hX:aa1 aM w x):
 Calls Tryz.prog 93 #[ClV g ga gc x] w fun e w'=>e= .returned (.int .i64 (aaH g x.r))/\Below w.heap.size w w':=by
 have hF:Below w.heap.size w (w.alloc (ClO g ga gc x)):=(ag _ w).alloc (af _) _;have hX1:=hX.below (hF.mono hn);have C:=ae (adC g x.r hx.2 aM ga gc x.pb x.cb (w.alloc (ClO g ga gc x)) (by simp;omega) (hG.below (hF.mono hn)) hX.rw hX1.ra);have HF:=ae hF;clear hX hF hX1 hG;go_enter Tryz.func93,Tryz.ntmps93
 go_wp2_with fail
 refine C.out.mono ?_;rintro e w2 ⟨rfl,hb⟩;have HB:=ae (HF.out.trans (hb.mono HF.out.size));clear hb;go_wp2;go_ret;exact⟨rfl,HB.out⟩
theorem at6{g:Sg}{t:T}(h:aaH g t=0)(h0:0<=t.head):t.head<(g.length:Int):=by
 have hf:=(aaR h).2.2.1;rw[aa4] at hf;unfold acU at hf;cases hx:g[t.head.toNat]? with
 |none=>rw[hx] at hf;simp at hf;omega
 |some x=>have:=(ah.1 hx).1;omega
theorem aia(g:Sg)(x:LV)(t:T)(ht:aaH g t=0)(aM:Nat)(ga:Option Addr)(gc:Nat)(a:Option Addr)(c:Nat)(w:World)(hn:aM<=w.heap.size)(hG:aaX aM w g ga gc):
 Calls Tryz.prog 137 #[ClV g ga gc x,tm t.head a t.args.length c] w fun e w'=>e= .returned (.bool (aap g t.head))/\Below w.heap.size w w':=by
 have hlg:g.length<=gc/\gc<=maxLen:=⟨hG.1,hG.2.1⟩;unfold maxLen at hlg;obtain⟨hl3,hl4⟩:=hlg;have HF:=ae (show Below w.heap.size w ((w.alloc (ClO g ga gc x)).alloc (aaa t.head a t.args.length c)) from((ag _ w).alloc (af _) _).alloc (by simp) _);by_cases q1:t.head<0
 ·have HD:=ae (show aap g t.head=false from by unfold aap;simp[show ¬0<=t.head from by omega]);clear hG ht;go_enter Tryz.func137,Tryz.ntmps137;go_wp2;go_ret;exact⟨by rw[HD.out];rfl,HF.out⟩
 ·have hk0:(0:Int)<=t.head:=by omega
  have hk1:=at6 ht hk0;obtain⟨b,o,y,rfl,hbn,hs,hxw,hc0,hc1,hc2,hc3⟩:=hG.elem (i:=t.head.toNat) (by omega);have HD:=ae (show aap g t.head=y.tr from by unfold aap;rw[hs];simp[hk0]);have hbw:b<w.heap.size:=by omega
  clear hG hs hxw hc0 hc1 hc2 ht q1;go_enter Tryz.func137,Tryz.ntmps137;go_wp2;go_ret;exact⟨by rw[HD.out];cases y.tr<;>rfl,HF.out⟩
theorem alU(g:Sg)(x:LV)(h1:aaH g x.l=0)(h2:aaH g x.r=0)(aM:Nat)(ga:Option Addr)(gc:Nat)(w:World)(hn:aM<=w.heap.size)(hG:aaX aM w g ga gc)(hX:aa1 aM w x):
 Calls Tryz.prog 94 #[ClV g ga gc x] w fun e w'=>e= .returned (.int .i64 (ace g x.l x.r))/\Below w.heap.size w w':=by
 have d0:=(((aai.below (ag _ w)).and (abT (hX.mono hn))).and (acS (hG.mono hn))).pushCl (ag _ _) g ga gc x;have C1:=ae (fun(W:World) (hG:aaX W.heap.size W g ga gc)=>aia g x x.l h1 W.heap.size ga gc x.pa x.ca W (af _) hG);have C2:=ae (fun(W:World) (hG:aaX W.heap.size W g ga gc)=>aia g x x.r h2 W.heap.size ga gc x.pb x.cb W (af _) hG);have D:=ae d0;clear d0 hG hX h1 h2;go_enter Tryz.func94,Tryz.ntmps94
 go_wp2_with fail
 generalize w.alloc (ClO g ga gc x)=w1 at D ⊢;generalize hb0:w.heap.size=b0 at D ⊢;have HB0:=ae hb0;clear hb0;refine(C1.out w1 D.out.now.2.1).mono ?_;rintro e w2 ⟨rfl,hb⟩;have D2:=ae (D.out.mv hb);clear hb D;obtain⟨⟨x0,x1,x2,x3,x4,x5⟩,_⟩:=D2.out.now;obtain⟨p,hp⟩:∃p,aap g x.l.head=p:=⟨_,rfl⟩;have HP:=ae hp;rw[hp];cases p with
 |true=>
  by_cases hr:x.r.head=0
  ·have HS:=ae (show ace g x.l x.r=0 from by unfold ace;rw[if_pos hp,if_pos hr]);have HQ:=ae D2.out.now.2.2.2;rw[hr] at x4;clear hr hp;go_wp2;go_ret;exact⟨by rw[HS.out];rfl,by rw[HB0.out];exact HQ.out⟩
  ·have HS:=ae (show ace g x.l x.r=10 from by unfold ace;rw[if_pos hp,if_neg hr]);have hr':(x.r.head==0)=false:=by simpa using hr
   clear hr hp
   go_wp2_with fail
   refine(C1.out w2 D2.out.now.2.1).mono ?_;clear x0 x1 x2 x3 x4 x5;rintro e w3 ⟨rfl,hb⟩;have HQ:=ae (D2.out.mv hb).now.2.2.2;clear hb D2;rw[HP.out];go_wp2;go_ret;exact⟨by rw[HS.out];rfl,by rw[HB0.out];exact HQ.out⟩
 |false=>
  have HS:=ae (show ace g x.l x.r=if aap g x.r.head then 10 else 0 from by unfold ace;rw[if_neg (by rw[hp];decide)]);clear hp
  go_wp2_with fail
  refine(C1.out w2 D2.out.now.2.1).mono ?_;clear x0 x1 x2 x3 x4 x5;rintro e w3 ⟨rfl,hb⟩;have D3:=ae (D2.out.mv hb);clear hb D2;rw[HP.out];obtain⟨⟨x0,x1,x2,x3,x4,x5⟩,_⟩:=D3.out.now
  go_wp2_with fail
  refine(C2.out w3 D3.out.now.2.1).mono ?_;clear x0 x1 x2 x3 x4 x5;rintro e w4 ⟨rfl,hb⟩;have HQ:=ae (D3.out.mv hb).now.2.2.2;clear hb D3;cases hq:aap g x.r.head with
  |true=>
   have HT:=ae (show ace g x.l x.r=10 from by rw[HS.out,hq];rfl);clear hq;go_wp2;go_ret;exact⟨by rw[HT.out];rfl,by rw[HB0.out];exact HQ.out⟩
  |false=>
   have HT:=ae (show ace g x.l x.r=0 from by rw[HS.out,hq];rfl);clear hq;go_wp2;go_ret;exact⟨by rw[HT.out];rfl,by rw[HB0.out];exact HQ.out⟩
abbrev fnV(f:Nat):Value:= .func (.func f) #[] #[]
def TsM(bt:Nat)(X:World):Prop:=X.cell? ⟨bt,0,none⟩=some (fnV 92)/\X.cell? ⟨bt,1,none⟩=some (fnV 93)/\X.cell? ⟨bt,2,none⟩=some (fnV 94)
def TeI(g:Sg)(x:LV)(w1:World)(i:Value)(wr:World):Prop:=
 Below w1.heap.size w1 wr/\(i= .int .i64 0\/(i= .int .i64 1/\aaH g x.l=0)\/(i= .int .i64 2/\aaH g x.l=0/\aaH g x.r=0)\/(i= .int .i64 3/\abn g x.l x.r=0))
theorem akA(g:Sg)(x:LV)(hx:x.sz)(aM:Nat)(ga:Option Addr)(gc:Nat)(bt:Nat)(w:World)(hn:aM<=w.heap.size)(hG:aaX aM w g ga gc)(hX:aa1 aM w x)(hbt:bt<w.heap.size)(ht:TsM bt w):
 Calls Tryz.prog 91 #[ClV g ga gc x,.slice (some ⟨bt,0,none⟩) 3 3] w fun e w'=>e= .returned (.int .i64 (abn g x.l x.r))/\Below w.heap.size w w':=by
 have hT:aai (TsM bt) w:=fun X hX=>⟨(hX.cell (p:=⟨bt,0,none⟩) hbt).trans ht.1,(hX.cell (p:=⟨bt,1,none⟩) hbt).trans ht.2.1,(hX.cell (p:=⟨bt,2,none⟩) hbt).trans ht.2.2⟩;have d0:=((((aai.below (ag _ w)).and (abT (hX.mono hn))).and (acS (hG.mono hn))).and hT).pushCl (ag _ _) g ga gc x;have C1:=ae (fun(W:World) (hG:aaX W.heap.size W g ga gc) (hX:aa1 W.heap.size W x)=>anY g x hx W.heap.size ga gc W (af _) hG hX);have C2:=ae (fun(W:World) (hG:aaX W.heap.size W g ga gc) (hX:aa1 W.heap.size W x)=>alT g x hx W.heap.size ga gc W (af _) hG hX);have C3:=ae (fun(h1:aaH g x.l=0) (h2:aaH g x.r=0) (W:World) (hG:aaX W.heap.size W g ga gc) (hX:aa1 W.heap.size W x)=>alU g x h1 h2 W.heap.size ga gc W (af _) hG hX);have D:=ae d0;have HBT:=ae hbt;have eg1:=enters_of Tryz.func92 (by kernel_rfl) rfl;have eg2:=enters_of Tryz.func93 (by kernel_rfl) rfl;have eg3:=enters_of Tryz.func94 (by kernel_rfl) rfl;have hbs:bt<w.heap.size+1:=by omega
 clear d0 hG hX hT ht;go_enter Tryz.func91,Tryz.ntmps91;go_wp2;have hs1:(w.alloc (ClO g ga gc x)).heap.size=w.heap.size+1:=by simp
 generalize w.alloc (ClO g ga gc x)=w1 at D hs1 ⊢
 go_loopw [10] (fun i wr=>TeI g x w1 i wr) (fun i _=>3-(intOf i).toNat)
 case atStart=>exact⟨ag _ _,.inl rfl⟩
 case round=>
  obtain⟨hB,hk⟩:=hrel;have hbz:=hB.size;have HB:=ae hB;have D1:=ae (D.out.mv hB);have hbw:bt<wr.heap.size:=by omega
  clear hB
  rcases hk with rfl|⟨rfl,h1⟩|⟨rfl,h1,h2⟩|⟨rfl,h1⟩
  ·obtain⟨⟨x0,x1,x2,x3,x4,x5⟩,⟨t0,t1,t2⟩,_⟩:=D1.out.now
   go_wp2_with fail
   refine(C1.out wr D1.out.now.2.2.1 D1.out.now.2.2.2.1).mono ?_;rintro e w2 ⟨rfl,hb⟩;clear x0 x1 x2 x3 x4 x5 t0 t1 t2;have HB2:=ae (HB.out.trans (hb.mono hbz));have HQ:=ae (D1.out.mv hb).now.2.2.2.2;clear hb;by_cases h:aaH g x.l=0
   ·have H:=ae h;rw[h];clear h;go_wp2
    go_roundw
    case rel=>exact⟨HB2.out,.inr (.inl ⟨rfl,H.out⟩)⟩
    case measure=>simp[intOf]
   ·have HE:=ae (akn (r:=x.r) h);obtain⟨k,hk⟩:∃k,aaH g x.l=k:=⟨_,rfl⟩;rw[hk] at HE h ⊢;have h2:(k != 0)=true:=by simpa using h
    clear h hk;go_wp2;go_ret;exact⟨by rw[HE.out];rfl,HQ.out⟩
  ·obtain⟨⟨x0,x1,x2,x3,x4,x5⟩,⟨t0,t1,t2⟩,_⟩:=D1.out.now;have H1:=ae h1;clear h1
   go_wp2_with fail
   refine(C2.out wr D1.out.now.2.2.1 D1.out.now.2.2.2.1).mono ?_;rintro e w2 ⟨rfl,hb⟩;clear x0 x1 x2 x3 x4 x5 t0 t1 t2;have HB2:=ae (HB.out.trans (hb.mono hbz));have HQ:=ae (D1.out.mv hb).now.2.2.2.2;clear hb;by_cases h:aaH g x.r=0
   ·have H:=ae h;rw[h];clear h;go_wp2
    go_roundw
    case rel=>exact⟨HB2.out,.inr (.inr (.inl ⟨rfl,H1.out,H.out⟩))⟩
    case measure=>simp[intOf]
   ·have HE:=ae (ah1 H1.out h);obtain⟨k,hk⟩:∃k,aaH g x.r=k:=⟨_,rfl⟩;rw[hk] at HE h ⊢;have h2:(k != 0)=true:=by simpa using h
    clear h hk;go_wp2;go_ret;exact⟨by rw[HE.out];rfl,HQ.out⟩
  ·obtain⟨⟨x0,x1,x2,x3,x4,x5⟩,⟨t0,t1,t2⟩,_⟩:=D1.out.now;have HE:=ae (ako h1 h2);have C4:=ae (C3.out h1 h2);clear h1 h2
   go_wp2_with fail
   refine(C4.out wr D1.out.now.2.2.1 D1.out.now.2.2.2.1).mono ?_;rintro e w2 ⟨rfl,hb⟩;clear x0 x1 x2 x3 x4 x5 t0 t1 t2;have HB2:=ae (HB.out.trans (hb.mono hbz));have HQ:=ae (D1.out.mv hb).now.2.2.2.2;clear hb;by_cases h:ace g x.l x.r=0
   ·have H:=ae (HE.out.trans h);rw[h];clear h;go_wp2
    go_roundw
    case rel=>exact⟨HB2.out,.inr (.inr (.inr ⟨rfl,H.out⟩))⟩
    case measure=>simp[intOf]
   ·obtain⟨k,hk⟩:∃k,ace g x.l x.r=k:=⟨_,rfl⟩;rw[hk] at HE h ⊢;have h2:(k != 0)=true:=by simpa using h
    clear h hk;go_wp2;go_ret;exact⟨by rw[HE.out];rfl,HQ.out⟩
  ·have HQ:=ae D1.out.now.2.2.2.2;have HE:=ae h1;clear h1;go_wp2;go_ret;exact⟨by rw[HE.out];rfl,HQ.out⟩
theorem adt(g:Sg)(x:LV)(hx:x.sz)(aM:Nat)(ga:Option Addr)(gc:Nat)(w:World)(hn:aM<=w.heap.size)(hG:aaX aM w g ga gc)(hX:aa1 aM w x):
 Calls Tryz.prog 50 #[.slice ga g.length gc,x.v] w fun e w'=>e= .returned (.int .i64 (abn g x.l x.r))/\Below w.heap.size w w':=by
 obtain⟨W1,hW1⟩:∃W1,(w.alloc x.obj).alloc (.cells #[fnV 92,fnV 93,fnV 94] 135)=W1:=⟨_,rfl⟩;have hs1:W1.heap.size=w.heap.size+2:=by rw[←hW1];simp
 have hF1:Below w.heap.size w W1:=by rw[←hW1];exact((ag _ w).alloc (af _) _).alloc (by simp) _
 have ht:TsM (w.heap.size+1) W1:=by rw[←hW1];exact⟨by simp[go_sem],by simp[go_sem],by simp[go_sem]⟩
 have HC:=ae (akA g x hx aM ga gc (w.heap.size+1) W1 (by omega) (hG.below (hF1.mono hn)) (hX.below (hF1.mono hn)) (by omega) ht);have HF:=ae hF1;clear hG hX hF1 ht;go_enter Tryz.func50,Tryz.ntmps50
 go_wp2_with fail
 try rw[hW1]
 refine HC.out.mono ?_;rintro e w2 ⟨rfl,hb⟩;have HB:=ae (HF.out.trans (hb.mono HF.out.size));clear hb;go_wp2;go_ret;exact⟨rfl,HB.out⟩
def lcE(g:Sg)(x y:LV):Int:=if abn g x.l x.r=0 then abn g y.l y.r else abn g x.l x.r
def lcR(g:Sg)(x y:LV):Int:=if abn g x.l x.r=0 then(if abn g y.l y.r=0 then acB g (aeM x.n x.l x.r) (aeM y.n y.l y.r) else 0) else 0
theorem at7{b:Nat}{x:LV}{X:World}{obj:Obj}{W:World}(h:aa1 W.heap.size W x)(hb:W.heap.size=b)(ho:obj= .cells #[.int .i64 x.l.head,.slice x.pa x.l.args.length x.ca,.int .i64 x.r.head,.slice x.pb x.r.args.length x.cb] 60):
 aai (fun X=>aab X.heap.size X [x.l,x.r] (some ⟨b,0,none⟩) 2) (W.alloc obj):=by
 subst hb;subst ho;have hal:Below W.heap.size W (W.alloc (.cells #[.int .i64 x.l.head,.slice x.pa x.l.args.length x.ca,.int .i64 x.r.head,.slice x.pb x.r.args.length x.cb] 60)):=(ag _ _).alloc (af _) _;intro X hX;have hx:=(h.below hal).mono hal.size;have hx:=(hx.below hX).mono hX.size;obtain⟨p,q⟩:=(abR W #[.int .i64 x.l.head,.slice x.pa x.l.args.length x.ca,.int .i64 x.r.head,.slice x.pb x.r.args.length x.cb] 60) X hX;exact⟨by simp,by simp[maxLen],.inr ⟨W.heap.size,0,rfl,p,aaO.2 ⟨h.lw,q 0 _ rfl,_,_,q 1 _ rfl,hx.la⟩,aaO.2 ⟨h.rw,q 2 _ rfl,_,_,q 3 _ rfl,hx.ra⟩,trivial⟩⟩
theorem arP{b:Nat}{x:LV}{X:World}{obj:Obj}{W:World}(h:aa1 W.heap.size W x)(hb:W.heap.size=b)(ho:obj= .cells #[.int .i64 x.l.head,.slice x.pa x.l.args.length x.ca,.int .i64 x.l.head,.slice x.pa x.l.args.length x.ca,.int .i64 x.r.head,.slice x.pb x.r.args.length x.cb,.int .i64 x.r.head,.slice x.pb x.r.args.length x.cb] 60):
 aai (fun X=>aab X.heap.size X [x.l,x.l,x.r,x.r] (some ⟨b,0,none⟩) 4) (W.alloc obj):=by
 subst hb;subst ho;have hal:Below W.heap.size W (W.alloc (.cells #[.int .i64 x.l.head,.slice x.pa x.l.args.length x.ca,.int .i64 x.l.head,.slice x.pa x.l.args.length x.ca,.int .i64 x.r.head,.slice x.pb x.r.args.length x.cb,.int .i64 x.r.head,.slice x.pb x.r.args.length x.cb] 60)):=(ag _ _).alloc (af _) _;intro X hX;have hx:=(h.below hal).mono hal.size;have hx:=(hx.below hX).mono hX.size;obtain⟨p,q⟩:=(abR W #[.int .i64 x.l.head,.slice x.pa x.l.args.length x.ca,.int .i64 x.l.head,.slice x.pa x.l.args.length x.ca,.int .i64 x.r.head,.slice x.pb x.r.args.length x.cb,.int .i64 x.r.head,.slice x.pb x.r.args.length x.cb] 60) X hX;exact⟨by simp,by simp[maxLen],.inr ⟨W.heap.size,0,rfl,p,aaO.2 ⟨h.lw,q 0 _ rfl,_,_,q 1 _ rfl,hx.la⟩,aaO.2 ⟨h.lw,q 2 _ rfl,_,_,q 3 _ rfl,hx.la⟩,aaO.2 ⟨h.rw,q 4 _ rfl,_,_,q 5 _ rfl,hx.ra⟩,aaO.2 ⟨h.rw,q 6 _ rfl,_,_,q 7 _ rfl,hx.ra⟩,trivial⟩⟩
theorem aft(x:LV)(w:World)(hX:aa1 w.heap.size w x):
 Calls Tryz.prog 193 #[x.v] w fun e w'=>∃a c,e= .returned (.slice a (aeM x.n x.l x.r).length c)/\Below w.heap.size w w'/\aai (fun X=>aab X.heap.size X (aeM x.n x.l x.r) a c) w':=by
 have hF:Below w.heap.size w (w.alloc x.obj):=(ag _ w).alloc (af _) _;have HX:=ae ((hX.below hF).mono hF.size);have HF:=ae hF;clear hX hF;obtain⟨n,l,r,pa,ca,pb,cb⟩:=x;go_enter Tryz.func193,Tryz.ntmps193;cases n with
 |true=>
  go_wp2;refine bodyPost_ret (v:= .slice (some ⟨w.heap.size+1,0,none⟩) 4 4) (by simp[results,Tryz.results193,go_sem]) rfl ?_;exact⟨_,_,rfl,HF.out.alloc HF.out.size _,arP (X:=w) HX.out (by simp) rfl⟩
 |false=>
  go_wp2;refine bodyPost_ret (v:= .slice (some ⟨w.heap.size+1,0,none⟩) 2 2) (by simp[results,Tryz.results193,go_sem]) rfl ?_;exact⟨_,_,rfl,HF.out.alloc HF.out.size _,at7 (X:=w) HX.out (by simp) rfl⟩
abbrev TwO(x y:LV):Obj:= .cells #[.bool x.n,.int .i64 x.l.head,.slice x.pa x.l.args.length x.ca,.int .i64 x.r.head,.slice x.pb x.r.args.length x.cb,.bool y.n,.int .i64 y.l.head,.slice y.pa y.l.args.length y.ca,.int .i64 y.r.head,.slice y.pb y.r.args.length y.cb] 62
def Twc(b:Nat)(x y:LV)(X:World):Prop:=
 (X.cell? ⟨b,0,none⟩=some (.bool x.n)/\X.cell? ⟨b,1,none⟩=some (.int .i64 x.l.head)/\X.cell? ⟨b,2,none⟩=some (.slice x.pa x.l.args.length x.ca)/\X.cell? ⟨b,3,none⟩=some (.int .i64 x.r.head)/\X.cell? ⟨b,4,none⟩=some (.slice x.pb x.r.args.length x.cb))/\
 (X.cell? ⟨b,5,none⟩=some (.bool y.n)/\X.cell? ⟨b,6,none⟩=some (.int .i64 y.l.head)/\X.cell? ⟨b,7,none⟩=some (.slice y.pa y.l.args.length y.ca)/\X.cell? ⟨b,8,none⟩=some (.int .i64 y.r.head)/\X.cell? ⟨b,9,none⟩=some (.slice y.pb y.r.args.length y.cb))
theorem arQ(W:World)(x y:LV):aai (Twc W.heap.size x y) (W.alloc (TwO x y)):=fun X hX=>by
 have c:∀i,X.cell? ⟨W.heap.size,i,none⟩=(W.alloc (TwO x y)).cell? ⟨W.heap.size,i,none⟩:=fun i=>hX.cell (p:=⟨W.heap.size,i,none⟩) (by simp);refine⟨⟨?_,?_,?_,?_,?_⟩,?_,?_,?_,?_,?_⟩<;>rw[c]<;>simp[go_sem]
theorem aai.pushTw{F:World->Prop}{W W':World}(k:aai F W)(hb:Below W.heap.size W W')(x y:LV):aai (fun X=>Twc W'.heap.size x y X/\F X) (W'.alloc (TwO x y)):=
 (k.mv (hb.alloc hb.size _)).and (arQ W' x y)
def LcI(g:Sg)(x y:LV)(w1:World)(i:Value)(wr:World):Prop:=
 Below w1.heap.size w1 wr/\(i= .int .i64 0\/(i= .int .i64 1/\abn g x.l x.r=0)\/(i= .int .i64 2/\abn g x.l x.r=0/\abn g y.l y.r=0))
theorem amR{W u:World}(h:Below W.drew.heap.size W.drew u):Below W.heap.size W u:=⟨h.os,h.tape,h.output,h.size,h.block⟩
theorem aje{A W u:World}(h:Below A.heap.size A W)(hu:Below W.heap.size W u):Below A.heap.size A u:=h.trans (hu.mono h.size)
theorem avw{g:Sg}{x y:LV}(h1:abn g x.l x.r=0)(h2:abn g y.l y.r=0):muE g (aeM x.n x.l x.r) (aeM y.n y.l y.r)=0/\muR g (aeM x.n x.l x.r) (aeM y.n y.l y.r)=acB g (aeM x.n x.l x.r) (aeM y.n y.l y.r):=by
 obtain⟨a1,a2,_⟩:=ai5 h1;obtain⟨b1,b2,_⟩:=ai5 h2;have e1:=amK (n:=x.n) a1 a2;have e2:=amK (n:=y.n) b1 b2;unfold muE muR;rw[if_pos e1,if_pos e1,if_pos e2];exact⟨e2,rfl⟩
theorem ahA(g:Sg)(x y:LV)(hx:x.sz)(hy:y.sz)(aM:Nat)(ga:Option Addr)(gc:Nat)(w:World)(hn:aM<=w.heap.size)(hG:aaX aM w g ga gc)(hX:aa1 aM w x)(hY:aa1 aM w y):
 Calls Tryz.prog 152 #[.slice ga g.length gc,x.v,y.v] w fun e w'=>e= .returned (.tuple #[.int .i64 (lcR g x y),.int .i64 (lcE g x y)])/\Below w.heap.size w w':=by
 have d0:=(((((((aai.below (ag _ w)).and (abT (hY.mono hn))).and (abT (hX.mono hn))).and (acS (hG.mono hn))).pushL (ag _ _) x).pushL (ag _ _) y).pushTw (ag _ _) x y);simp only[aah] at d0;have C1:=ae (fun(W:World) (hG:aaX W.heap.size W g ga gc) (hX:aa1 W.heap.size W x)=>adt g x hx W.heap.size ga gc W (af _) hG hX);have C2:=ae (fun(W:World) (hG:aaX W.heap.size W g ga gc) (hX:aa1 W.heap.size W y)=>adt g y hy W.heap.size ga gc W (af _) hG hX);have D:=ae d0;clear d0 hG hX hY;go_enter Tryz.func152,Tryz.ntmps152;go_wp2;have hs1:(((w.alloc x.obj).alloc y.obj).alloc (TwO x y)).heap.size=w.heap.size+3:=by simp
 generalize ((w.alloc x.obj).alloc y.obj).alloc (TwO x y)=w1 at D hs1 ⊢
 go_loopw [15] (fun i wr=>LcI g x y w1 i wr) (fun i _=>2-(intOf i).toNat)
 case atStart=>exact⟨ag _ _,.inl rfl⟩
 case round=>
  obtain⟨hB,hk⟩:=hrel;have hbz:=hB.size;have HB:=ae hB;have D1:=ae (D.out.mv hB);clear hB
  rcases hk with rfl|⟨rfl,h1⟩|⟨rfl,h1,h2⟩
  ·obtain⟨⟨⟨x0,x1,x2,x3,x4⟩,_⟩,_⟩:=D1.out.now
   go_wp2_with fail
   clear x0 x1 x2 x3 x4;have hal:Below wr.heap.size wr (wr.alloc x.obj):=(ag _ _).alloc (af _) _;have D2:=ae (D1.out.mv hal);have HB2:=ae (HB.out.trans (hal.mono hbz));clear hal;generalize wr.alloc x.obj=w2 at D2 HB2 ⊢;refine(C1.out w2 D2.out.now.2.2.2.1 D2.out.now.2.2.2.2.1).mono ?_;rintro e w3 ⟨rfl,hb⟩;have HB3:=ae (HB2.out.trans (hb.mono HB2.out.size));have HQ:=ae (D2.out.mv hb).now.2.2.2.2.2.2;clear hb;by_cases h:abn g x.l x.r=0
   ·have H:=ae h;rw[h];clear h;go_wp2
    go_roundw
    case rel=>exact⟨HB3.out,.inr (.inl ⟨rfl,H.out⟩)⟩
    case measure=>simp[intOf]
   ·have HE:=ae (show lcE g x y=abn g x.l x.r/\lcR g x y=0 from⟨by unfold lcE;rw[if_neg h],by unfold lcR;rw[if_neg h]⟩);obtain⟨k,hk⟩:∃k,abn g x.l x.r=k:=⟨_,rfl⟩;rw[hk] at HE h ⊢;have h2:(k != 0)=true:=by simpa using h
    clear h hk;go_wp2;refine bodyPost_ret (v:= .tuple #[.int .i64 0,.int .i64 k]) (by simp[results,Tryz.results152,go_sem]) rfl ?_;exact⟨by rw[HE.out.1,HE.out.2],HQ.out⟩
  ·obtain⟨⟨_,x0,x1,x2,x3,x4⟩,_⟩:=D1.out.now;have H1:=ae h1;clear h1
   go_wp2_with fail
   clear x0 x1 x2 x3 x4;have hal:Below wr.heap.size wr (wr.alloc y.obj):=(ag _ _).alloc (af _) _;have D2:=ae (D1.out.mv hal);have HB2:=ae (HB.out.trans (hal.mono hbz));clear hal;generalize wr.alloc y.obj=w2 at D2 HB2 ⊢;refine(C2.out w2 D2.out.now.2.2.2.1 D2.out.now.2.2.2.2.2.1).mono ?_;rintro e w3 ⟨rfl,hb⟩;have HB3:=ae (HB2.out.trans (hb.mono HB2.out.size));have HQ:=ae (D2.out.mv hb).now.2.2.2.2.2.2;clear hb;by_cases h:abn g y.l y.r=0
   ·have H:=ae h;rw[h];clear h;go_wp2
    go_roundw
    case rel=>exact⟨HB3.out,.inr (.inr ⟨rfl,H1.out,H.out⟩)⟩
    case measure=>simp[intOf]
   ·have HE:=ae (show lcE g x y=abn g y.l y.r/\lcR g x y=0 from⟨by unfold lcE;rw[if_pos H1.out],by unfold lcR;rw[if_pos H1.out,if_neg h]⟩);obtain⟨k,hk⟩:∃k,abn g y.l y.r=k:=⟨_,rfl⟩;rw[hk] at HE h ⊢;have h2:(k != 0)=true:=by simpa using h
    clear h hk;go_wp2;refine bodyPost_ret (v:= .tuple #[.int .i64 0,.int .i64 k]) (by simp[results,Tryz.results152,go_sem]) rfl ?_;exact⟨by rw[HE.out.1,HE.out.2],HQ.out⟩
  ·have HE:=ae (show lcE g x y=0/\lcR g x y=acB g (aeM x.n x.l x.r) (aeM y.n y.l y.r) from⟨by unfold lcE;rw[if_pos h1,h2],by unfold lcR;rw[if_pos h1,if_pos h2]⟩);have hmul:=avw h1 h2;have CA:=ae (fun(W:World) (hW:Below wr.heap.size wr W)=>aft x W (D1.out.mv hW).now.2.2.2.2.1);have CB:=ae (fun(W:World) (hW:Below wr.heap.size wr W)=>aft y W (D1.out.mv hW).now.2.2.2.2.2.1)
   have CM:=ae (fun(W:World) (hW:Below wr.heap.size wr W) (a1:Option Addr) (c1:Nat) (a2:Option Addr) (c2:Nat) (hA:aab W.heap.size W (aeM x.n x.l x.r) a1 c1) (hB:aab W.heap.size W (aeM y.n y.l y.r) a2 c2)=>by
    have hl:∀(n:Bool) (l r:T),(aeM n l r).length<=1000000:=fun n l r=>by cases n<;>simp[aeM]
    have hz:∀(z:LV),z.sz->∀t∈aeM z.n z.l z.r,t.size<=1000000000000:=fun z h t ht=>by
     obtain⟨zn,zl,zr,_,_,_,_⟩:=z;obtain⟨h1,h2⟩:=h;cases zn<;>simp[aeM] at ht<;>rcases ht with rfl|rfl<;>assumption
    have:=ape g (aeM x.n x.l x.r) (aeM y.n y.l y.r) (hl _ _ _) (hl _ _ _) (hz x hx) (hz y hy) W.heap.size ga gc a1 c1 a2 c2 W (af _) (D1.out.mv hW).now.2.2.2.1 hA hB;rw[atX,hmul.1,hmul.2] at this;exact this)
   have KP:=ae (show ∀W,Below wr.heap.size wr W->Lc w.heap.size x W/\Lc (w.heap.size+1) y W/\Below wr.heap.size wr W from fun W hW=>⟨(D1.out.mv hW).now.2.2.1,(D1.out.mv hW).now.2.1,hW⟩);have HFIN:=ae (fun(W:World) (hW:Below wr.heap.size wr W)=>(D1.out.mv hW).now.2.2.2.2.2.2);simp only[Lc] at KP;generalize acB g (aeM x.n x.l x.r) (aeM y.n y.l y.r)=res at HE CM;generalize aeM x.n x.l x.r=A at CA CM;generalize aeM y.n y.l y.r=B at CB CM;clear h1 h2 hmul C1 C2 D1 D HB;obtain⟨⟨x0,x1,x2,x3,x4⟩,⟨y0,y1,y2,y3,y4⟩,_⟩:=KP.out wr (ag _ _)
   go_wp2_with fail
   refine wp_region_noPanic ?_
   go_region_held3 (fun w'=>(w'.cell? ⟨w.heap.size,0,none⟩=some (.bool x.n)/\w'.cell? ⟨w.heap.size,1,none⟩=some (.int .i64 x.l.head)/\w'.cell? ⟨w.heap.size,2,none⟩=some (.slice x.pa x.l.args.length x.ca)/\w'.cell? ⟨w.heap.size,3,none⟩=some (.int .i64 x.r.head)/\w'.cell? ⟨w.heap.size,4,none⟩=some (.slice x.pb x.r.args.length x.cb))/\(w'.cell? ⟨w.heap.size+1,0,none⟩=some (.bool y.n)/\w'.cell? ⟨w.heap.size+1,1,none⟩=some (.int .i64 y.l.head)/\w'.cell? ⟨w.heap.size+1,2,none⟩=some (.slice y.pa y.l.args.length y.ca)/\w'.cell? ⟨w.heap.size+1,3,none⟩=some (.int .i64 y.r.head)/\w'.cell? ⟨w.heap.size+1,4,none⟩=some (.slice y.pb y.r.args.length y.cb))/\Below wr.heap.size wr w')
    (first
     |exact KP.out _ (ag _ _)
     |exact KP.out _ (ag _ _).drew
     |exact KP.out _ hB)
    (first
     |(go_at_call 193;with_reducible refine(CA.out _ (‹_/\_/\Below wr.heap.size wr _›.2.2)).mono ?_;rintro e u1 ⟨aA,cA,rfl,hu,LA⟩;have hB:=aje (‹_/\_/\Below wr.heap.size wr _›.2.2) hu;try (have LB':=LB.mv (by first|exact hu|exact amR hu)))
     |(go_at_call 193;with_reducible refine(CB.out _ (‹_/\_/\Below wr.heap.size wr _›.2.2)).mono ?_;rintro e u2 ⟨aB,cB,rfl,hu,LB⟩;have hB:=aje (‹_/\_/\Below wr.heap.size wr _›.2.2) hu;try (have LA':=LA.mv (by first|exact hu|exact amR hu)))
     |(go_at_call 192;with_reducible refine(CM.out _ (‹_/\_/\Below wr.heap.size wr _›.2.2) aA cA aB cB (by first|exact LA'.now|exact LA.now|exact LA' _ (ag _ _).drew|exact LA _ (ag _ _).drew) (by first|exact LB'.now|exact LB.now|exact LB' _ (ag _ _).drew|exact LB _ (ag _ _).drew)).mono ?_;rintro e u3 ⟨rfl,hu⟩;have hB:=aje (‹_/\_/\Below wr.heap.size wr _›.2.2) hu;have hfin:=hB))
   all_goals
    refine NoPanic.normal ?_;go_wp2;refine bodyPost_ret (v:= .tuple #[.int .i64 res,.int .i64 0]) (by simp[results,Tryz.results152,go_sem]) rfl ?_;exact⟨by rw[HE.out.1,HE.out.2],HFIN.out _ hfin⟩
def InI(n:Int)(zs:List Int)(w:World)(i:Value)(wr:World):Prop:=∃k:Nat,k<=zs.length/\i= .int .i64 k/\(∀j,j<k->zs[j]? ≠some n)/\wr=w
theorem avx(n:Int)(zs:List Int)(aM:Nat)(a:Option Addr)(c:Nat)(w:World)(hn:aM<=w.heap.size)(hZ:acP aM w zs a c):
 Calls Tryz.prog 65 #[.int .i64 n,.slice a zs.length c] w fun e w'=>e= .returned (.bool (decide (n∈zs)))/\Below w.heap.size w w':=by
 have hl:zs.length<=c/\c<=maxLen:=⟨hZ.1,hZ.2.1⟩;unfold maxLen at hl;obtain⟨hl1,hl2⟩:=hl;have HZ:=ae hZ;clear hZ;go_enter Tryz.func65,Tryz.ntmps65;go_wp2
 go_loopw [5] (fun i wr=>InI n zs w i wr) (fun i _=>zs.length-(intOf i).toNat)
 case atStart=>exact⟨0,Nat.zero_le _,rfl,fun j h=>by omega,rfl⟩
 case round=>
  obtain⟨k,hk,rfl,hno,rfl⟩:=hrel;have HN:=ae hno;clear hno;by_cases hlt:k<zs.length
  ·obtain⟨b,o,z,rfl,hbn,hz,hcz⟩:=HZ.out.elem (k:=k) hlt;have hk0:(0:Int)<=(k:Int):=aw _;have hk1:(k:Int)<(zs.length:Int):=by omega
   have HZK:=ae hz;clear hz;by_cases q:z=n
   ·subst q;have hd:decide (z∈zs)=true:=by simpa using ak HZK.out
    go_wp2;go_ret;exact⟨by first|(rw[hd];rfl)|rfl,ag _ _⟩
   ·have q':(z==n)=false:=by simpa using q
    go_wp2
    go_roundw
    case rel=>
     refine⟨k+1,by omega,by go_num,fun j hj=> ?_,rfl⟩;by_cases e:j=k
     ·subst e;rw[HZK.out];intro e;exact q (Option.some.inj e)
     ·exact HN.out j (by omega)
    case measure=>simp[intOf];omega
  ·have hd:decide (n∈zs)=false:=by
    simp only[decide_eq_false_iff_not];intro hm;obtain⟨j,hj⟩:=au hm;exact HN.out j (by have:=(ah.1 hj).1;omega) hj
   go_wp2;go_ret;exact⟨by first|(rw[hd];rfl)|rfl,ag _ _⟩
def aat(acc:List Int)(z:Int):List Int:=if acc.contains z then acc else acc++[z]
def dd(acc zs:List Int):List Int:=zs.foldl aat acc
theorem adJ{acc:List Int}{z y:Int}:y∈aat acc z↔y∈acc\/y=z:=by
 unfold aat;split
 ·rename_i h;have:z∈acc:=by simpa using h
  constructor
  ·exact .inl
  ·rintro(h|rfl)
   ·exact h
   ·exact this
 ·simp
theorem as9{acc zs:List Int}{y:Int}:y∈dd acc zs↔y∈acc\/y∈zs:=by
 induction zs generalizing acc with
 |nil=>simp[dd]
 |cons z zs ih=>rw[dd,List.foldl_cons];rw[show zs.foldl aat (aat acc z)=dd (aat acc z) zs from rfl,ih,adJ];simp[or_assoc]
theorem aps(acc zs:List Int)(z:Int):dd acc (zs++[z])=aat (dd acc zs) z:=by simp[dd]
theorem at8(acc acc0:List Int)(z:Int):dd acc (aat acc0 z)=aat (dd acc acc0) z:=by
 by_cases h:acc0.contains z
 ·have h1:aat acc0 z=acc0:=by rw[aat,if_pos h]
  have h2:(dd acc acc0).contains z=true:=by simpa using as9.2 (.inr (by simpa using h))
  rw[h1,aat,if_pos h2]
 ·have h1:aat acc0 z=acc0++[z]:=by rw[aat,if_neg h]
  rw[h1,aps]
theorem awR(acc acc0 zs:List Int):dd acc (dd acc0 zs)=dd (dd acc acc0) zs:=by
 induction zs generalizing acc0 with
 |nil=>rfl
 |cons z zs ih=>
  show dd acc (dd (aat acc0 z) zs)=dd (aat (dd acc acc0) z) zs;rw[ih,at8]
theorem apt(acc zs:List Int):(dd acc zs).length<=acc.length+zs.length:=by
 induction zs generalizing acc with
 |nil=>simp[dd]
 |cons z zs ih=>
  have h1:=ih (aat acc z);have h2:(aat acc z).length<=acc.length+1:=by unfold aat;split<;>simp
  show(dd (aat acc z) zs).length<=_;simp;omega
mutual
def T.rv:T->List Int
 | .node h ts=>T.rvs (if h<0 then[-1-h] else[]) ts
def T.rvs:List Int->List T->List Int
 |acc,[]=>acc
 |acc,t::ts=>T.rvs (dd acc t.rv) ts
end
theorem T.rvs_snoc(acc:List Int)(ts:List T)(t:T):T.rvs acc (ts++[t])=dd (T.rvs acc ts) t.rv:=by
 induction ts generalizing acc with
 |nil=>simp[T.rvs]
 |cons x ts ih=>rw[List.cons_append,T.rvs,ih,T.rvs]
theorem anZ(acc:List Int)(d:Nat)(h:Int)(ts:List T):varStep acc (d,.node h ts)=dd acc (if h<0 then[-1-h] else[]):=by
 show(if h<0 then(if acc.contains (-1-h) then acc else acc++[-1-h]) else acc)=_;by_cases q:h<0
 ·rw[if_pos q,if_pos q];rfl
 ·rw[if_neg q,if_neg q];rfl
mutual
theorem T.subs_rv(t:T)(d:Nat)(acc:List Int):(T.subs d t).foldl varStep acc=dd acc t.rv:=by
 match t with
 | .node h ts=>
   rw[T.subs,List.foldl_cons,anZ,T.subss_rv ts (d+1),T.rv];exact(T.rvs_dd acc _ ts).symm
theorem T.subss_rv(ts:List T)(d:Nat)(acc:List Int):(T.subss d ts).foldl varStep acc=T.rvs acc ts:=by
 match ts with
 |[]=>rfl
 |t::ts=>rw[T.subss,List.foldl_append,T.subs_rv t,T.subss_rv ts,T.rvs]
theorem T.rvs_dd(acc acc0:List Int)(ts:List T):dd acc (T.rvs acc0 ts)=T.rvs (dd acc acc0) ts:=by
 match ts with
 |[]=>rfl
 |t::ts=>rw[T.rvs,T.rvs,T.rvs_dd acc _ ts,awR]
end
theorem T.rv_eq(t:T):t.rv=varsOf (T.subs 1 t):=by
 have h:dd [] t.rv=t.rv:=by
  match t with
  | .node h ts=>
    rw[T.rv,T.rvs_dd]
    congr 1
    split<;>simp[dd,aat]
 rw[varsOf,T.subs_rv,h]
theorem T.rv_length(t:T):t.rv.length<=t.size:=by
 rw[T.rv_eq]
 have:∀(pre:List (Nat×T)) (acc:List Int),(pre.foldl varStep acc).length<=acc.length+pre.length:=by
  intro pre
  induction pre with
  |nil=>intro acc;simp
  |cons x pre ih=>intro acc;rw[List.foldl_cons];have h1:=ih (varStep acc x);have h2:=ahp acc x;simp;omega
 have:=this (T.subs 1 t) [];rw[T.subs_length] at this;simpa[varsOf] using this
def ata(zs:List Int)(w:World)(e:Ending)(w':World):Prop:=∃a c,e= .returned (.slice a zs.length c)/\acP w'.heap.size w' zs a c/\(∀g o m,a=some ⟨g,o,m⟩->w.heap.size<=g)/\Below w.heap.size w w'
theorem atb{w:World}{base:Nat}{v:Value}{zs:List Int}(h:w.ownsRow base 3 1 v zs.length (zs.map (Value.int .i64))):∃a c,v= .slice a zs.length c/\acP w.heap.size w zs a c/\∀g o m,a=some ⟨g,o,m⟩->base<=g:=by
 rcases h.2 with⟨rfl,h0⟩|⟨g,cap,cur,rfl,hg,hh,hn,hc,r⟩
 ·have:zs=[]:=aC h0;subst this;exact⟨none,0,rfl,⟨by simp,by simp[maxLen],.inl rfl⟩,fun _ _ _ h=>by cases h⟩
 ·refine⟨_,cap,rfl,⟨hn,hc,.inr ⟨g,0,rfl,(aj.1 hh).1,fun j z hz=> ?_⟩⟩,fun g' o' m' h=>by cases h;exact hg⟩;have hj:j<zs.length:=(ah.1 hz).1;rw[Nat.zero_add,h.cellAt j (by omega),List.getElem?_map,hz];rfl
def RvI(t:T)(acc0:List Int)(w wL:World)(out i:Value)(wr:World):Prop:=∃k:Nat,k<=t.args.length/\i= .int .i64 k/\wr.ownsRow (w.heap.size+1) 3 1 out (T.rvs acc0 (t.args.take k)).length ((T.rvs acc0 (t.args.take k)).map (Value.int .i64))/\Below (w.heap.size+1) wL wr
theorem arR{w w':World}{zs:List Int}{a:Option Addr}{c:Nat}{row:Option Nat}(h:acP w.heap.size w zs a c)(hg:w.grownBy w' row)(hr:∀q,row=some q->∀g o m,a=some ⟨g,o,m⟩->q≠g):acP w'.heap.size w' zs a c:=by
 obtain⟨h1,h2,h3⟩:=h;refine⟨h1,h2,?_⟩
 rcases h3 with h3|⟨b,o,rfl,hb,h3⟩
 ·exact .inl h3
 ·exact .inr ⟨b,o,rfl,aF hb hg.size,fun j z hz=>(aq (a:=⟨b,o+j,none⟩) (hg.block b hb (fun e=>hr b e.symm b o none rfl rfl))).trans (h3 j z hz)⟩
def RvJ(acc l:List Int)(w wL:World)(al:Option Addr)(cl:Nat)(out i:Value)(wr:World):Prop:=∃k:Nat,k<=l.length/\i= .int .i64 k/\wr.ownsRow (w.heap.size+1) 3 1 out (dd acc (l.take k)).length ((dd acc (l.take k)).map (Value.int .i64))/\Below (w.heap.size+1) wL wr/\acP wr.heap.size wr l al cl/\(∀q,out.ownBlock=some q->∀g o m,al=some ⟨g,o,m⟩->q≠g)
theorem alV:∀(N:Nat) (t:T),t.size<=N->t.size<=1000000000000->∀(aM:Nat) (a:Option Addr) (c:Nat) (w:World),aM<=w.heap.size->(Lit.int .i64 t.head).wf=true->aab aM w t.args a c->
 Calls Tryz.prog 76 #[tm t.head a t.args.length c] w (ata t.rv w):=by
 intro N
 induction N with
 |zero=>intro t ht;have:=T.size_pos t;omega
 |succ N ih=>
  intro t ht hbig aM a c w hn hwf hA;have IH:=ae ih;clear ih;have hw:=ahI hwf;have hlc:t.args.length<=c/\c<=maxLen:=⟨hA.1,hA.2.1⟩;unfold maxLen at hlc;obtain⟨hl1,hl2⟩:=hlc;have HA:=ae hA;clear hA hwf;have HRV:=ae (show t.rv=T.rvs (if t.head<0 then[-1-t.head] else[]) t.args from by cases t;rfl)
  have HACCL:=ae (show ∀k,(T.rvs (if t.head<0 then[-1-t.head] else[]) (t.args.take k)).length<=t.size from fun k=>by
   have h1:=T.rv_length (.node t.head (t.args.take k));rw[T.rv] at h1;refine aE h1 ?_;have e1:=T.size_eq (.node t.head (t.args.take k));rw[T.args_node] at e1;have e2:=T.size_eq t;have h3:=T.sizes_append (t.args.take k) (t.args.drop k);rw[List.take_append_drop] at h3;omega)
  obtain⟨i0,hi,hz0,hz1,hz2⟩:=info_parts awL;go_enter Tryz.func76,Tryz.ntmps76;generalize hz:(if t.head<0 then[-1-t.head] else[])=acc0 at HRV HACCL;have HZ:=ae hz;clear hz
  go_upto_if 9 with fail
  go_cut [3] from 9 (fun v3 wx=>wx.ownsRow (w.heap.size+1) 3 1 v3 acc0.length (acc0.map (Value.int .i64))/\Below (w.heap.size+1) (w.alloc (aaa t.head a t.args.length c)) wx)
  case first=>
   by_cases hneg:t.head<0
   ·have hac:=HZ.out;rw[if_pos hneg] at hac;subst hac
    go_wp2_with (at_builtin;refine aaG ?_)
    refine ae ?_;refine wpList_append_own _ rfl _ _ 41 rfl (w.heap.size+1) 3 i0 (.int .i64 0) 1 8 Tryz.underlying41 hi hz0 hz1 hz2 rfl (by decide) _ 0 _ rfl (World.ownsRow_nil _ _ _ _) ⟨w.heap.size+1,0,none⟩ 1 1 [.int .i64 (-1-t.head)] (by rfl) rfl (abJ _ _ _ _ (by simp)) (by simp[Value.oneCell']) (by unfold maxLen;omega) (by omega) (by simp) ?_;intro v' w2 hown2 hgr2 _;have HO2:=ae hown2;have HG2:=ae hgr2;clear hown2 hgr2;go_wp2
    go_meet
    exact⟨HO2.out,(((ag _ _).alloc (by simp) _).grown HG2.out (by simp) (fun q hq=>by cases hq))⟩
   ·have hac:=HZ.out;rw[if_neg hneg] at hac;subst hac;go_wp2
    go_meet
    exact⟨World.ownsRow_nil _ _ _ _,ag _ _⟩
  case rest=>
   obtain⟨hown,hB0⟩:=hcut;have HO0:=ae hown;have HB0:=ae hB0;have hz0':=hB0.size;rw[aah] at hz0';clear hown hB0;go_wp2
   go_loopw [3,4,5,6] (fun out i _ _ wr=>RvI t acc0 w (w.alloc (aaa t.head a t.args.length c)) out i wr) (fun _ i _ _ _=>t.args.length-(intOf i).toNat)
   case atStart=>exact⟨0,Nat.zero_le _,rfl,HO0.out,HB0.out⟩
   case round=>
    obtain⟨k,hk,rfl,hown,hB⟩:=hrel;have HO:=ae hown;have HB:=ae hB;have hbz:=hB.size;rw[aah] at hbz;have hbox:wr.cell? ⟨w.heap.size,1,none⟩=some (.slice a t.args.length c):=(hB.cell (p:=⟨w.heap.size,1,none⟩) (by simp)).trans (by simp[go_sem]);clear hown hB;by_cases hlt:k<t.args.length
    ·have hwb:Below aM w wr:=((ag aM w).alloc hn _).trans (HB.out.mono (by omega));obtain⟨b,o,s,a',c',rfl,hbn,hs,hswf,hc1,hc2,hA'⟩:=(HA.out.below hwb).elem (i:=k) hlt;have hsN:s.size<=N:=by have:=T.size_lt_of_mem hs;have:=T.size_eq t;omega
     have hsb:s.size<=1000000000000:=by have:=T.size_lt_of_mem hs;have:=T.size_eq t;omega
     have hk0:(0:Int)<=(k:Int):=aw _;have hk1:(k:Int)<(t.args.length:Int):=by omega
     have hbw:b<wr.heap.size:=by omega
     have HSS:=ae hs;have CALL:=ae (IH.out s hsN hsb aM a' c' wr (by omega) hswf hA');clear hs hA' hwb hswf
     go_wp2_with fail
     refine CALL.out.mono ?_;rintro e w2 ⟨al,cl,rfl,hL,hfr,hb2⟩;obtain⟨l,hl⟩:∃l,s.rv=l:=⟨_,rfl⟩;rw[hl] at hL ⊢;have hlen:l.length<=1000000000000:=by rw[←hl];exact aE (T.rv_length s) hsb
     have HLV:=ae hl;have HL:=ae hL;have HNE:=ae (show ∀q,Value.ownBlock u3=some q->∀g o m,al=some ⟨g,o,m⟩->q≠g from fun q hq g o m e=>by have h1:=(HO.out.lt q hq).2;have h2:=hfr g o m e;omega);have HOw:=ae (aaM HO.out hb2);have HB2:=ae (HB.out.trans (hb2.mono (by omega)));have hzw2:=hb2.size;obtain⟨acc,hacc⟩:∃acc,T.rvs acc0 (t.args.take k)=acc:=⟨_,rfl⟩;rw[hacc] at HOw;have HACC:=ae hacc;clear hl hL hb2 hacc CALL hfr;have hll:l.length<=cl/\cl<=maxLen:=⟨HL.out.1,HL.out.2.1⟩;unfold maxLen at hll;obtain⟨hll1,hll2⟩:=hll;go_wp2
     go_loopw [3,6] (fun out i wr=>RvJ acc l w (w.alloc (aaa t.head (some ⟨b,o,none⟩) t.args.length c)) al cl out i wr) (fun _ i _=>l.length-(intOf i).toNat)
     case atStart=>exact⟨0,Nat.zero_le _,rfl,HOw.out,HB2.out,HL.out,HNE.out⟩
     case round=>
      clear hbw hc1 hc2;obtain⟨j,hj,rfl,hown,hB,hlI,hne⟩:=hrel;have HBj:=ae hB;have hbzj:=hB.size;rw[aah] at hbzj;obtain⟨acc1,hacc1⟩:∃acc1,dd acc (l.take j)=acc1:=⟨_,rfl⟩;rw[hacc1] at hown;have HACC1:=ae hacc1;obtain⟨av,cv,rfl,hI,_⟩:=atb hown;have HOj:=ae hown;have HIj:=ae hI;have HLI:=ae hlI;have HNEj:=ae hne;clear hB hown hI hlI hne hacc1;by_cases hjt:j<l.length
      ·have hj0:(0:Int)<=(j:Int):=aw _;have hj1:(j:Int)<(l.length:Int):=by omega
       obtain⟨b2,o2,z,rfl,hb2,hz,hc0⟩:=HLI.out.elem hjt;have HZ2:=ae hz;clear hz
       go_wp2_with fail
       refine(avx z acc1 wr.heap.size av cv wr (af _) HIj.out).mono ?_;rintro e w3 ⟨rfl,hb3⟩;have HO3:=ae (aaM HOj.out hb3);have HL3:=ae ((HLI.out.below hb3).mono hb3.size);have HB3:=ae (HBj.out.trans (hb3.mono (by omega)));have hzw3:=hb3.size;have hc3:w3.cell? ⟨b2,o2+j,none⟩=some (.int .i64 z):=(hb3.cell hb2).trans hc0;have hb23:b2<w3.heap.size:=by omega
       have hst:dd acc (l.take (j+1))=aat acc1 z:=by
        rw[List.take_add_one,HZ2.out,Option.toList_some,aps,HACC1.out]
       have HST:=ae hst
       have hal:acc1.length<=2000000000000:=by
        rw[←HACC1.out,←HACC.out];have h1:=apt (T.rvs acc0 (t.args.take k)) (l.take j);have h2:(T.rvs acc0 (t.args.take k)).length<=1000000000000:=aE (HACCL.out k) hbig;have h3:(l.take j).length<=l.length:=by simp;omega
        omega
       clear hb3 hst hc0 hb2 HLI HOj HIj;by_cases hin:z∈acc1
       ·rw[decide_eq_true hin];have HIN:=ae (show acc1.contains z=true from by simpa using hin);clear hin;go_wp2
        go_roundw
        case rel=>
         have e1:=HST.out;rw[aat,if_pos HIN.out] at e1;refine⟨j+1,by omega,by go_num,?_,HB3.out,HL3.out,HNEj.out⟩;rw[e1];exact HO3.out
        case measure=>simp[intOf];omega
       ·rw[decide_eq_false hin];have HIN:=ae (show ¬acc1.contains z=true from by simpa using hin);clear hin
        go_wp2_with (at_builtin;refine aaG ?_)
        refine ae ?_;refine wpList_append_lies _ rfl _ _ 41 rfl (w.heap.size+1) 3 i0 (.int .i64 0) 1 8 Tryz.underlying41 hi hz0 hz1 hz2 rfl (by decide) _ acc1.length _ rfl (HO3.out.alloc _) ⟨w3.heap.size,0,none⟩ 1 1 [.int .i64 z] (by rfl) rfl (abJ _ _ _ _ rfl) (by simp[Value.oneCell']) (by omega) (by unfold maxLen;omega) (by omega) (by simp;omega) (w3.heap.size+1) (by simp) ?_;intro g cap w4 hown4 hgr4 hor hlt4;have HO4:=ae hown4;have HB4:=ae ((HB3.out.alloc (by omega) _).grown hgr4 (by simp;omega) (fun q hq=>(HO3.out.lt q hq).1));have HL4:=ae (arR ((HL3.out.below ((ag _ _).alloc (af _) _)).mono (by simp)) hgr4 HNEj.out);have HOR:=ae hor;clear hown4 hgr4 hor;go_wp2
        go_roundw
        case rel=>
         have e1:=HST.out;rw[aat,if_neg HIN.out] at e1;refine⟨j+1,by omega,by go_num,?_,HB4.out,HL4.out,fun q hq g' o' m' e=> ?_⟩
         ·rw[e1,List.map_append,aK];exact HO4.out
         ·cases e
          rcases HOR.out with h|h
          ·exact HNEj.out q ((show(Value.slice av acc1.length cv).ownBlock=some g from h).trans hq) _ _ _ rfl
          ·have:g=q:=by simpa[Value.ownBlock] using hq
           omega
        case measure=>simp[intOf];omega
      ·obtain rfl:j=l.length:=by omega
       go_wp2
       go_roundw
       case rel=>
        refine⟨k+1,by omega,by go_num,?_,HBj.out⟩;have hs:=HSS.out;rw[List.take_add_one,hs,Option.toList_some,T.rvs_snoc,HACC.out,HLV.out];have e1:=HACC1.out;rw[List.take_length] at e1;rw[e1];exact HOj.out
       case measure=>simp[intOf];omega
    ·obtain rfl:k=t.args.length:=by omega
     obtain⟨av,cv,rfl,hI,hfr⟩:=atb HO.out;have HI:=ae hI;have HFR:=ae hfr;clear hI hfr;go_wp2;go_ret;have hrv:=HRV.out;rw[List.take_length] at*;rw[hrv];exact⟨av,cv,rfl,HI.out,fun g o m e=>by have:=HFR.out g o m e;omega,((ag _ w).alloc (af _) _).trans (HB.out.mono (by omega))⟩
theorem akB(g:Sg)(a b:T)(hza:a.size<=1000000000000)(hzb:b.size<=1000000000000)(aM:Nat)(ga:Option Addr)(gc:Nat)(pa:Option Addr)(ca:Nat)(pb:Option Addr)(cb:Nat)(w:World)(hn:aM<=w.heap.size)(hG:aaX aM w g ga gc)(hwa:(Lit.int .i64 a.head).wf=true)(hwb:(Lit.int .i64 b.head).wf=true)(hA:aab aM w a.args pa ca)(hB:aab aM w b.args pb cb):
 Calls Tryz.prog 167 #[.slice ga g.length gc,tm a.head pa a.args.length ca,tm b.head pb b.args.length cb] w fun e w'=>e= .returned (atV g a b)/\Below w.heap.size w w':=by
 obtain⟨W1,hW1⟩:∃W1,w.alloc (aaa a.head pa a.args.length ca)=W1:=⟨_,rfl⟩;have hs1:W1.heap.size=w.heap.size+1:=by rw[←hW1];simp
 have hF1:Below w.heap.size w W1:=by rw[←hW1];exact(ag _ w).alloc (af _) _
 have L1:aai (fun X=>Vc w.heap.size a.head pa a.args.length ca X) W1:=by rw[←hW1];exact aaP w _ _ _ _
 obtain⟨W2,hW2⟩:∃W2,W1.alloc (aaa b.head pb b.args.length cb)=W2:=⟨_,rfl⟩;have hs2:W2.heap.size=w.heap.size+2:=by rw[←hW2];simp;omega
 have hF2:Below w.heap.size w W2:=by rw[←hW2];exact hF1.alloc (by omega) _
 have L2:aai (fun X=>Vc W1.heap.size b.head pb b.args.length cb X) W2:=by rw[←hW2];exact aaP W1 _ _ _ _
 have L1':aai (fun X=>Vc w.heap.size a.head pa a.args.length ca X) W2:=L1.mv (by rw[←hW2];exact(ag _ W1).alloc (af _) _);obtain⟨W3,hW3⟩:∃W3,W2.alloc (.cells #[.int .i64 a.head,.slice pa a.args.length ca,.int .i64 b.head,.slice pb b.args.length cb] 60)=W3:=⟨_,rfl⟩;have hs3:W3.heap.size=w.heap.size+3:=by rw[←hW3];simp;omega
 have hF3:Below W2.heap.size W2 W3:=by rw[←hW3];exact(ag _ W2).alloc (af _) _
 have hb3:Below w.heap.size w W3:=hF2.trans (hF3.mono (by omega));have hA3:aab W3.heap.size W3 a.args pa ca:=(hA.below (hb3.mono hn)).mono (by omega);have hB3:aab W3.heap.size W3 b.args pb cb:=(hB.below (hb3.mono hn)).mono (by omega)
 have hrow:aab W3.heap.size W3 [a,b] (some ⟨w.heap.size+2,0,none⟩) 2:=by
  refine⟨by simp,by simp[maxLen],.inr ⟨w.heap.size+2,0,rfl,by omega,?_⟩⟩
  have e:∀i,W3.cell? ⟨w.heap.size+2,i,none⟩=(#[Value.int .i64 a.head,.slice pa a.args.length ca,.int .i64 b.head,.slice pb b.args.length cb]:Array Value)[i]? :=fun i=>by
   rw[←hW3,←hs2];simp[go_sem]
  exact⟨aaO.2 ⟨hwa,by rw[e];rfl,pa,ca,by rw[e];rfl,hA3⟩,aaO.2 ⟨hwb,by rw[e];rfl,pb,cb,by rw[e];rfl,hB3⟩,trivial⟩
 have HFE:=ae (acp g [a,b] (by intro t ht;simp at ht;rcases ht with rfl|rfl<;>assumption) W3.heap.size ga gc _ 2 W3 (af _) ((hG.below (hb3.mono hn)).mono (by omega)) hrow);have LT:=ae ((L1'.mv hF3).and (L2.mv hF3));have HB3:=ae hb3
 have HCM:=ae (fun(h0:abM g [a,b]=0) (W:World) (hW:Below w.heap.size w W)=>by
  obtain⟨h1,h2⟩:=arG h0;obtain⟨r1,r2,r3,_⟩:=aaR h1;obtain⟨_,s2,s3,_⟩:=aaR h2;obtain⟨k1,_,k3⟩:=aam r2;obtain⟨j1,_,j3⟩:=aam s2;exact amI g r1 a b r3 k3 s3 j3 (by omega) aM ga gc pa ca pb cb W (aE hn hW.size) (hG.below (hW.mono hn)) hwa hwb (hA.below (hW.mono hn)) (hB.below (hW.mono hn)))
 obtain⟨⟨hu0,hu1⟩,hv0,hv1⟩:=((L1'.mv hF3).and (L2.mv hF3)).now;obtain⟨⟨hu0',hu1'⟩,hv0',hv1'⟩:=(L1'.and L2).now;rw[hs1] at hu0 hu1 hu0' hu1';clear hG hA hB hF1 L1 hF2 L2 L1' hF3 hA3 hB3 hrow hb3;go_enter Tryz.func167,Tryz.ntmps167
 go_wp2_with fail
 refine HFE.out.mono ?_;rintro e w4 ⟨rfl,hb4⟩;have HB4:=ae (HB3.out.trans (hb4.mono HB3.out.size));have LT4:=ae (LT.out.mv hb4);clear hb4;by_cases h0:abM g [a,b]=0
 ·have HC:=ae (HCM.out h0 w4 HB4.out);have HV:=ae (show atV g a b= .tuple #[.int .i64 (abp g a b),.int .i64 0] from by unfold atV;rw[if_pos h0]);obtain⟨⟨q0,q1⟩,q2,q3⟩:=LT4.out.now;rw[hs1] at q0 q1;rw[h0];clear h0
  go_wp2_with fail
  refine HC.out.mono ?_;rintro e w5 ⟨rfl,hb5⟩;have HB5:=ae (HB4.out.trans (hb5.mono HB4.out.size));clear hb5;go_wp2;refine bodyPost_ret (v:= .tuple #[.int .i64 (abp g a b),.int .i64 0]) (by simp[results,Tryz.results167,go_sem]) rfl ?_;exact⟨by rw[HV.out],HB5.out⟩
 ·have HV:=ae (show atV g a b= .tuple #[.int .i64 0,.int .i64 (abM g [a,b])] from by unfold atV;rw[if_neg h0]);obtain⟨r,hr⟩:∃r,abM g [a,b]=r:=⟨_,rfl⟩;rw[hr] at HV h0 ⊢;have h1:(r != 0)=true:=by simpa using h0
  clear h0 hr;go_wp2;refine bodyPost_ret (v:= .tuple #[.int .i64 0,.int .i64 r]) (by simp[results,Tryz.results167,go_sem]) rfl ?_;exact⟨by rw[HV.out],HB4.out⟩
end Go.Proofs.YtabfapijgfjflaaGreat
