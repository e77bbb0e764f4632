import Derived.Test.YtabfapijgfjflaaGreatMQBp
import Derived.Test.YtabfapijgfjflaaGreatMQBb
import Derived.Test.YtabfapijgfjflaaGreatMQBr
import Derived.Test.YtabfapijgfjflaaGreatMUf
import Derived.Test.YtabfapijgfjflaaGreatMBld
import Derived.Shelf.SortG.Plain
import Derived.Shelf.SortG.SortNone
import Derived.Test.YtabfapijgfjflaaGreatMAl
set_option linter.unusedVariables false
set_option linter.unusedSimpArgs false
set_option maxRecDepth 100000
set_option maxHeartbeats 8000000
namespace Go.Proofs.YtabfapijgfjflaaGreat
open Go.RowKit
theorem ajU(t:T)(ht:t.size<=1000000000000)(aM:Nat)(a:Option Addr)(c:Nat)(w:World)(hn:aM<=w.heap.size)(hwf:(Lit.int .i64 t.head).wf=true)(hA:aab aM w t.args a c):
 Calls Tryz.prog 143 #[tm t.head a t.args.length c] w fun e w'=>e= .returned (.bool (decide (t.check≠0)))/\Below w.heap.size w w':=by
 have hb:Below w.heap.size w (w.alloc (aaa t.head a t.args.length c)):=(ag _ _).alloc (af _) _;have CC:=ae (aca t ht aM a c (w.alloc (aaa t.head a t.args.length c)) (by simp;omega) hwf (hA.below (hb.mono hn)));have HB:=ae hb;clear hb hA;go_enter Tryz.func143,Tryz.ntmps143
 go_wp2_with fail
 refine CC.out.mono ?_;rintro e w2 ⟨rfl,hb2⟩;have HB2:=ae (HB.out.trans (hb2.mono (by simp)));clear hb2;cases hd:decide (t.check≠0)
 ·have hz:t.check=0:=by simpa using hd
  have HZ:=ae hz;rw[hz];have HD:=ae (show decide (t.check≠0)=false from hd);clear hd hz;go_wp2;go_ret;refine⟨?_,HB2.out⟩
  first|(rw[HD.out];rfl)|(simp[HZ.out])
 ·have hz:(t.check==0)=false:=by simpa using hd
  obtain⟨k,hk⟩:∃k,t.check=k:=⟨_,rfl⟩;rw[hk] at hz ⊢;have HD:=ae (show decide (t.check≠0)=true from by rw[hk];rw[hk] at hd;exact hd);clear hd hk;go_wp2;go_ret;refine⟨?_,HB2.out⟩;have h2:(k != 0)=true:=by simp[bne,hz]
  have h3:t.check≠0:=of_decide_eq_true HD.out;simp[h3,hz]
  try exact h2
  try simpa using h2
abbrev aw2:Value:= .func (.func 143) #[] #[]
theorem aoA(ts:List T)(hts:∀t∈ts,t.size<=1000000000000)(aM:Nat)(a:Option Addr)(c:Nat)(w:World)(hn:aM<=w.heap.size)(hA:aab aM w ts a c):
 Calls Tryz.prog 131 #[.slice a ts.length c,aw2] w fun e w'=>∃j:Int,e= .returned (.int .i64 j)/\decide (0<=j)=abv ts/\Below w.heap.size w w':=by
 have hlc:ts.length<=c/\c<=maxLen:=⟨hA.1,hA.2.1⟩;unfold maxLen at hlc;obtain⟨hl1,hl2⟩:=hlc;have HA:=ae hA;have HT:=ae hts;clear hA hts;go_enter Tryz.func131,Tryz.ntmps131;go_wp2
 go_loopw [8] (fun i wr=>aw6 ts w i wr) (fun i _=>ts.length-(intOf i).toNat)
 case atStart=>exact⟨0,Nat.zero_le _,rfl,by simp,ag _ _⟩
 case round=>
  obtain⟨k,hk,rfl,hbd,hB⟩:=hrel;have HBD:=ae hbd;have HB:=ae hB;have hbz:=hB.size;clear hbd hB;by_cases hlt:k<ts.length
  ·obtain⟨b,o,s,a',c',rfl,hbn,hs,hswf,hc1,hc2,hA'⟩:=(HA.out.below (HB.out.mono hn)).elem (i:=k) hlt;have hk0:(0:Int)<=(k:Int):=aw _;have hk1:(k:Int)<(ts.length:Int):=by omega
   have hbw:b<wr.heap.size:=by omega
   have CN:=ae (ajU s (HT.out s (ak hs)) aM a' c' wr (by omega) hswf hA')
   have hst:abv (ts.drop k)=(decide (s.check≠0)||abv (ts.drop (k+1))):=by
    obtain⟨hkl,hke⟩:=ah.1 hs;rw[aD hkl,hke];rfl
   have HSTEP:=ae hst;clear hs hswf hA' hst
   go_wp2_with fail
   refine CN.out.mono ?_;rintro e w2 ⟨rfl,hb2⟩;have HB2:=ae (HB.out.trans (hb2.mono hbz));clear hb2;cases hd:decide (s.check≠0)
   ·have H0:=ae (show abv (ts.drop k)=abv (ts.drop (k+1)) from by rw[HSTEP.out,hd];rfl);clear hd;go_wp2
    go_roundw
    case rel=>exact⟨k+1,by omega,by go_num,HBD.out.trans H0.out,HB2.out⟩
    case measure=>simp[intOf];omega
   ·have H0:=ae (show abv ts=true from by rw[HBD.out,HSTEP.out,hd];rfl);clear hd;go_wp2;go_ret;exact⟨(k:Int),rfl,by rw[H0.out];simp,HB2.out⟩
  ·obtain rfl:k=ts.length:=by omega
   have H0:=ae (show abv ts=false from by rw[HBD.out,List.drop_of_length_le (af _)];rfl);go_wp2;go_ret;exact⟨-1,rfl,by rw[H0.out];rfl,HB.out⟩
theorem afl(ts:List T)(hts:∀t∈ts,t.size<=1000000000000)(aM:Nat)(a:Option Addr)(c:Nat)(w:World)(hn:aM<=w.heap.size)(hA:aab aM w ts a c):
 Calls Tryz.prog 83 #[.slice a ts.length c,aw2] w fun e w'=>e= .returned (.bool (abv ts))/\Below w.heap.size w w':=by
 have CI:=ae (aoA ts hts aM a c w hn hA);clear hA hts;go_enter Tryz.func83,Tryz.ntmps83
 go_wp2_with fail
 refine CI.out.mono ?_;rintro e w2 ⟨j,rfl,hj,hb⟩;have HJ:=ae hj;have HB:=ae hb;clear hj hb;go_wp2;go_ret;exact⟨by rw[←HJ.out];rfl,HB.out⟩
end Go.Proofs.YtabfapijgfjflaaGreat
namespace Go.Proofs
open Go.Shelf
def Tryz.laysNode_ren : Go.Shelf.Ren := ⟨fun | 53 => 146 | 64 => 189 | 63 => 188 | 78 => 219 | 79 => 220 | 70 => 210 | 71 => 211 | 72 => 212 | 73 => 213 | 74 => 214 | 75 => 215 | 59 => 216 | 76 => 217 | 77 => 218 | 88 => 227 | 89 => 228 | 90 => 229 | 91 => 230 | 92 => 231 | 68 => 232 | 96 => 240 | n => n, fun | 22 => 181 | 23 => 185 | 3 => 3 | 51 => 224 | 0 => 0 | 67 => 254 | 69 => 256 | 4 => 4 | 61 => 248 | 60 => 247 | 44 => 164 | 5 => 5 | 9 => 9 | 75 => 264 | 79 => 268 | 83 => 273 | 84 => 274 | n => n, fun | n => n⟩
theorem Tryz.laysNode : Go.Proofs.SlLaysN.n53 Tryz.prog Tryz.laysNode_ren := {
  mixed := by kernel_rfl
  f53 := ⟨Tryz.f146.name, by decide, Tryz.func146.trans (congrArg some (by kernel_rfl))⟩
  f59 := ⟨Tryz.f216.name, by decide, Tryz.func216.trans (congrArg some (by kernel_rfl))⟩
  f63 := ⟨Tryz.f188.name, by decide, Tryz.func188.trans (congrArg some (by kernel_rfl))⟩
  f64 := Tryz.func189.trans (congrArg some (by kernel_rfl))
  f68 := ⟨Tryz.f232.name, by decide, Tryz.func232.trans (congrArg some (by kernel_rfl))⟩
  f70 := ⟨Tryz.f210.name, by decide, Tryz.func210.trans (congrArg some (by kernel_rfl))⟩
  f71 := ⟨Tryz.f211.name, by decide, Tryz.func211.trans (congrArg some (by kernel_rfl))⟩
  f72 := ⟨Tryz.f212.name, by decide, Tryz.func212.trans (congrArg some (by kernel_rfl))⟩
  f73 := ⟨Tryz.f213.name, by decide, Tryz.func213.trans (congrArg some (by kernel_rfl))⟩
  f74 := ⟨Tryz.f214.name, by decide, Tryz.func214.trans (congrArg some (by kernel_rfl))⟩
  f75 := ⟨Tryz.f215.name, by decide, Tryz.func215.trans (congrArg some (by kernel_rfl))⟩
  f76 := ⟨Tryz.f217.name, by decide, Tryz.func217.trans (congrArg some (by kernel_rfl))⟩
  f77 := ⟨Tryz.f218.name, by decide, Tryz.func218.trans (congrArg some (by kernel_rfl))⟩
  f78 := Tryz.func219.trans (congrArg some (by kernel_rfl))
  f79 := Tryz.func220.trans (congrArg some (by kernel_rfl))
  f88 := ⟨Tryz.f227.name, by decide, Tryz.func227.trans (congrArg some (by kernel_rfl))⟩
  f89 := Tryz.func228.trans (congrArg some (by kernel_rfl))
  f90 := Tryz.func229.trans (congrArg some (by kernel_rfl))
  f91 := ⟨Tryz.f230.name, by decide, Tryz.func230.trans (congrArg some (by kernel_rfl))⟩
  f92 := ⟨Tryz.f231.name, by decide, Tryz.func231.trans (congrArg some (by kernel_rfl))⟩
  f96 := ⟨Tryz.f240.name, by decide, Tryz.func240.trans (congrArg some (by kernel_rfl))⟩
  t0 := Tryz.underlying0
  a0 := Tryz.isAgg0
  z0 := Tryz.sizeOf0
  v0 := Tryz.zeroValue0
  t3 := Tryz.underlying3
  a3 := Tryz.isAgg3
  z3 := Tryz.sizeOf3
  v3 := Tryz.zeroValue3
  t4 := Tryz.underlying4
  a4 := Tryz.isAgg4
  z4 := Tryz.sizeOf4
  v4 := Tryz.zeroValue4
  t5 := Tryz.underlying5
  a5 := Tryz.isAgg5
  z5 := Tryz.sizeOf5
  v5 := Tryz.zeroValue5
  t9 := Tryz.underlying9
  a9 := Tryz.isAgg9
  z9 := Tryz.sizeOf9
  v9 := Tryz.zeroValue9
  t22 := Tryz.underlying181
  a22 := Tryz.isAgg181
  z22 := Tryz.sizeOf181
  v22 := Tryz.zeroValue181
  t23 := Tryz.underlying185
  a23 := Tryz.isAgg185
  z23 := Tryz.sizeOf185
  v23 := Tryz.zeroValue185
  t44 := Tryz.underlying164
  a44 := Tryz.isAgg164
  z44 := Tryz.sizeOf164
  v44 := Tryz.zeroValue164
  t51 := Tryz.underlying224
  a51 := Tryz.isAgg224
  z51 := Tryz.sizeOf224
  v51 := Tryz.zeroValue224
  t60 := Tryz.underlying247
  a60 := Tryz.isAgg247
  z60 := Tryz.sizeOf247
  v60 := Tryz.zeroValue247
  t61 := Tryz.underlying248
  a61 := Tryz.isAgg248
  z61 := Tryz.sizeOf248
  v61 := Tryz.zeroValue248
  t67 := Tryz.underlying254
  a67 := Tryz.isAgg254
  z67 := Tryz.sizeOf254
  v67 := Tryz.zeroValue254
  t69 := Tryz.underlying256
  a69 := Tryz.isAgg256
  z69 := Tryz.sizeOf256
  v69 := Tryz.zeroValue256
  t75 := Tryz.underlying264
  a75 := Tryz.isAgg264
  z75 := Tryz.sizeOf264
  v75 := Tryz.zeroValue264
  t79 := Tryz.underlying268
  a79 := Tryz.isAgg268
  z79 := Tryz.sizeOf268
  v79 := Tryz.zeroValue268
  t83 := Tryz.underlying273
  a83 := Tryz.isAgg273
  z83 := Tryz.sizeOf273
  v83 := Tryz.zeroValue273
  t84 := Tryz.underlying274
  a84 := Tryz.isAgg274
  z84 := Tryz.sizeOf274
  v84 := Tryz.zeroValue274 }
end Go.Proofs
namespace Go.Proofs.YtabfapijgfjflaaGreat
open Go.RowKit Go.Sort
theorem aoB(base:Nat)(zs:List Int)(g cap:Nat)(w:World)(hl:zs.length<=1000000000000)(hown:w.ownsRow base 185 1 (.slice (some ⟨g,0,none⟩) zs.length cap) zs.length (zs.map (Value.int .i64))):
 Calls Tryz.prog 146 #[.slice (some ⟨g,0,none⟩) zs.length cap] w fun e w'=>
  e= .returned (.tuple #[])/\w'.ownsRow base 185 1 (.slice (some ⟨g,0,none⟩) zs.length cap) zs.length ((sorted zs).map (Value.int .i64))/\w.grownBy w' (some g):=by
 rcases hown.2 with⟨h,_⟩|⟨g',cap',cur,hv,hb,hh,hn,hc,hs,ht⟩
 ·cases h
 simp only[Value.slice.injEq,aJ,Addr.mk.injEq] at hv;obtain⟨⟨rfl,_⟩,_,rfl⟩:=hv;have hgl:g<w.heap.size:=(aj.1 hh).1;rw[Nat.mul_one] at ht hs
 have hH:Holds (Value.int .i64) w g 0 zs.toArray:=fun j hj=>by
  simp only[List.size_toArray] at hj;refine⟨?_,by simp[World.frozen?,hh]⟩
  have h1:cur[j]? =some (.int .i64 zs[j]):=by
   have h2:=congrArg (fun l=>l[j]?) ht;simp only[List.getElem?_take,if_pos hj,List.getElem?_map,ai hj,Option.map_some,Array.getElem?_toList] at h2;exact h2
  simp[World.cell?,hh,h1,hj]
 refine(AnyG.slices_Sort_int Tryz.laysNode g 0 cap zs w hH hgl (by omega)).mono ?_;rintro e w' ⟨rfl,n,os,rfl⟩
 have hst:∀i,i<w.heap.size->i≠g->(grow (putRow (Value.int .i64) (Sort.ahead w n) g 0 (sorted zs).toArray) os).heap[i]? =w.heap[i]? :=fun i hi hne=>by
  simp only[grow,putRow,mapBlock,Sort.ahead];rw[Array.getElem?_append_left (by simpa using hi),Array.getElem?_modify,if_neg (fun e=>hne e.symm)]
 have hsg:(grow (putRow (Value.int .i64) (Sort.ahead w n) g 0 (sorted zs).toArray) os).heap[g]? =some (.cells (putCells (Value.int .i64) 0 (sorted zs).toArray cur) 185 (0,0)):=by
  simp only[grow,putRow,mapBlock,Sort.ahead];rw[Array.getElem?_append_left (by simpa using hgl),Array.getElem?_modify,if_pos rfl,hh];rfl
 refine⟨rfl,⟨by simp[abl],.inr ⟨g,cap,_,rfl,hb,hsg,hn,hc,by simp[putCells,hs],?_⟩⟩,⟨rfl,rfl,rfl,by simp[grow,putRow,mapBlock,Sort.ahead],fun i hi hne=>hst i hi (fun e=>hne (by rw[e]))⟩⟩;rw[Nat.mul_one,←abl zs];exact ajn (by rw[abl];omega)
open Go.Maps
def acw(x:Sb)(b:Bool)(k:Int)(w:World)(e:Ending)(w':World):Prop:=
 ∃a c,e= .returned (.tuple #[.slice a x.length c,.bool b,.int .i64 k])/\abH (fun b=>w.heap.size<=b/\b<w'.heap.size) w' x a c/\Below w.heap.size w w'
def aiI:List (Int×Int)->Int
 |[]=>0
 |m::ms=>if alg m=0 then aiI ms else alg m
def ajV(s:St)(x y:T):St:={ s with syms:=abU (abU s.syms x) y,stk:=[(ahn s.syms x,ahn (abU s.syms x) y)]}
def st0:St:={ syms:=[],n:=0,R:=fun v=>v,vars:=[],stk:=[]}
structure aw1 (I:Nat->St->Nat->Prop) (as_ bs:List T):Prop where
 start:∃m,I 0 st0 m
 hand:∀k,alZ (I k)
 add:∀k s m x y,I k s m->s.stk=[]->as_[k]? =some x->bs[k]? =some y->∃m',I (k+1) (ajV s x y) m'
 last:∀s m,I as_.length s m->s.stk=[]->GOk s.syms s.R/\(∀z∈s.vars,0<=z/\z<256)/\∃f r,amr s.R f [] (sorted s.vars) s.syms (fun _=>none)=some r/\∀ms,r.1=some ms->aiI ms=0->∃f' u S',alm s.R f' [] (sorted s.vars) r.2=some (u,S')
def abN(I:Nat->St->Nat->Prop)(as_ bs:List T)(w:World)(e:Ending)(w':World):Prop:=
 ((as_.length≠bs.length\/abv as_=true\/abv bs=true)/\acw [] false 1 w e w')\/
 ((as_.length=bs.length/\abv as_=false/\abv bs=false)/\
   (((∃k s m p q rest,k<as_.length/\I (k+1) s m/\s.stk=rest++[(p,q)]/\afH s p q rest=none)/\acw [] false 0 w e w')\/
    ∃s m f r,I as_.length s m/\s.stk=[]/\amr s.R f [] (sorted s.vars) s.syms (fun _=>none)=some r/\
     ((r.1=none/\acw [] false 0 w e w')\/∃ms,r.1=some ms/\((aiI ms≠0/\acw [] false (aiI ms) w e w')\/(aiI ms=0/\∃f' u S',alm s.R f' [] (sorted s.vars) r.2=some (u,S')/\acw u true 0 w e w')))))
theorem aoC(w:World)(aM:Nat)(hn:aM<=w.heap.size)(L:Nat):IsG w.heap.size L aM w.heap.size (w.alloc (.cells #[.slice none 0 0,.map none,.slice none 0 0] 183)) (.slice none 0 0) (.map none) (.slice none 0 0) [] 0 (fun v=>v) []:=
 ⟨heap_alloc_new w _,hn,af _,⟨[],World.ownsRow_nil _ _ _ _,trivial⟩,.inl ⟨rfl,rfl,fun _=>rfl⟩,World.ownsRow_nil _ _ _ _⟩
theorem IsG.sortVars{B L aM g:Nat}{W W':World}{sv mv vv:Value}{syms:List SyU}{n:Nat}{R:Int->Int}{vars vars':List Int}(h:IsG B L aM g W sv mv vv syms n R vars)(hrow:W'.ownsRow B 185 1 vv vars'.length (vars'.map (Value.int .i64)))(hg:W.grownBy W' vv.ownBlock)(hB:B<=W.heap.size):IsG B L aM g W' sv mv vv syms n R vars':=by
 have hk:∀i,i<W.heap.size->vv.ownBlock≠some i->W'.heap[i]? =W.heap[i]? :=fun i hi hn=>hg.block i hi (fun e=>hn e.symm);obtain⟨xs,r1,r2⟩:=h.rows;refine⟨(hk g h.lt h.vv_ne).trans h.heap,h.low,h.base,⟨xs,ownsRow_kept r1 (fun b hb=>hk b (rowBlock r1 hb).2.1 (fun e=> ?_)),r2.keep (fun b hb=>hk b (by have:=h.low;omega) (fun e=>by have:=(rowBlock h.vrow e).1;have:=h.low;omega)) (fun b hb=>⟨hk b hb.lt hb.2.2.1,hb.2.2.1⟩)⟩,h.links.kept (fun M hM=>hk M (h.links.map_block hM).2.1 (fun e=> ?_)),hrow⟩
 ·obtain⟨_,_,c1,hc1⟩:=rowBlock r1 hb;obtain⟨_,_,c2,hc2⟩:=rowBlock h.vrow e;rw[hc1] at hc2;simp at hc2
 ·obtain⟨_,_,es,cl,hc1⟩:=h.links.map_block hM;obtain⟨_,_,c2,hc2⟩:=rowBlock h.vrow e;rw[hc1] at hc2;cases hc2
def AlI(I:Nat->St->Nat->Prop)(B g:Nat)(wL:World)(N:Nat)(i:Value)(wr:World):Prop:=
 ∃(k:Nat) (s:St) (m:Nat) (sv mv vv:Value),k<=N/\i= .int .i64 k/\I k s m/\s.stk=[]/\IsG B wr.heap.size B g wr sv mv vv s.syms s.n s.R s.vars/\Below B wL wr
theorem aq8{I:St->Nat->Prop}{B aM g:Nat}{sv mv vv:Value}{syms:List SyU}{n:Nat}{R:Int->Int}{vars:List Int}{L:Nat}{w:World}{e:Ending}{w':World}(hG:IsG B L aM g w sv mv vv syms n R vars)(hB:B<=w.heap.size)(h:ae3 I B aM g sv mv vv w e w'):∃b,e= .returned (.bool b)/\ae3 I B aM g sv mv vv w (.returned (.bool b)) w'/\Below B w w':=by
 rcases h with⟨rfl,h⟩|⟨rfl,h⟩
 ·refine⟨true,rfl,.inl ⟨rfl,h⟩,?_⟩;obtain⟨s,m,sv',mv',vv',_,_,_,hst⟩:=h;exact hst.below hB (fun i hi=>hG.own_ge hi)
 ·exact⟨false,rfl,.inr ⟨rfl,h⟩,h.2⟩
theorem aq9(I:Nat->St->Nat->Prop)(as_ bs:List T)(hI:(as_.length=bs.length/\abv as_=false/\abv bs=false)->aw1 I as_ bs)(has:∀t∈as_,t.size<=1000000000000)(hbs:∀t∈bs,t.size<=1000000000000)(hal:as_.length<=10000)(hbl:bs.length<=10000)(a:Option Addr)(c:Nat)(a':Option Addr)(c':Nat)(w:World)(hA:aab w.heap.size w as_ a c)(hA':aab w.heap.size w bs a' c'):
 Calls Tryz.prog 102 #[.slice a as_.length c,.slice a' bs.length c'] w (abN I as_ bs w):=by
 have LS:=ae (show ∀W,Below w.heap.size w W->aab w.heap.size W as_ a c/\aab w.heap.size W bs a' c' from fun W hW=>⟨hA.below hW,hA'.below hW⟩);have HAS:=ae has;have HBS:=ae hbs;have HI:=ae hI;have hlc:as_.length<=c/\c<=maxLen:=⟨hA.1,hA.2.1⟩;have hlc':bs.length<=c'/\c'<=maxLen:=⟨hA'.1,hA'.2.1⟩;unfold maxLen at hlc hlc';obtain⟨hl1,hl2⟩:=hlc;obtain⟨hl3,hl4⟩:=hlc';clear hA hA' has hbs hI;by_cases hlen:as_.length=bs.length
 case neg=>
  have hd:((as_.length:Int)==(bs.length:Int))=false:=by simpa using(fun e=>hlen (by omega))
  have HP:=ae (show abN I as_ bs w (.returned (.tuple #[.slice none 0 0,.bool false,.int .i64 1])) w from .inl ⟨.inl hlen,none,0,rfl,abH.nil _ _ _ (by simp[maxLen]),ag _ _⟩);have hd2:¬((as_.length:Int)=(bs.length:Int)):=fun e=>hlen (by omega);have hd3:¬(as_.length=bs.length):=hlen;clear hlen;go_enter Tryz.func102,Tryz.ntmps102;go_wp2;refine bodyPost_ret (v:= .tuple #[.slice none 0 0,.bool false,.int .i64 1]) (by simp[results,Tryz.results102,go_sem]) rfl ?_;exact HP.out
 have HLEN:=ae hlen;rw[←hlen] at hl3 hbl ⊢;clear hlen;go_enter Tryz.func102,Tryz.ntmps102
 go_wp2_with fail
 have ls:=LS.out w (ag _ _);refine(afl as_ HAS.out w.heap.size a c w (af _) ls.1).mono ?_;clear ls;rintro e w1 ⟨rfl,hb1⟩;have HB1:=ae hb1;clear hb1;cases q1:abv as_
 case true=>
  have HP:=ae (show abN I as_ bs w (.returned (.tuple #[.slice none 0 0,.bool false,.int .i64 1])) w1 from .inl ⟨.inr (.inl q1),none,0,rfl,abH.nil _ _ _ (by simp[maxLen]),HB1.out⟩);clear q1;go_wp2;refine bodyPost_ret (v:= .tuple #[.slice none 0 0,.bool false,.int .i64 1]) (by simp[results,Tryz.results102,go_sem]) rfl ?_;exact HP.out
 have Q1:=ae q1;clear q1
 go_wp2_with fail
 have ls:=LS.out w1 HB1.out;have CB:=afl bs HBS.out w.heap.size a' c' w1 HB1.out.size ls.2;rw[←HLEN.out] at CB;refine CB.mono ?_;clear ls CB;rintro e w2 ⟨rfl,hb2⟩;have HB2:=ae (HB1.out.trans (hb2.mono HB1.out.size));clear hb2;cases q2:abv bs
 case true=>
  have HP:=ae (show abN I as_ bs w (.returned (.tuple #[.slice none 0 0,.bool false,.int .i64 1])) w2 from .inl ⟨.inr (.inr q2),none,0,rfl,abH.nil _ _ _ (by simp[maxLen]),HB2.out⟩);clear q2;go_wp2;refine bodyPost_ret (v:= .tuple #[.slice none 0 0,.bool false,.int .i64 1]) (by simp[results,Tryz.results102,go_sem]) rfl ?_;exact HP.out
 have HOK:=ae (show as_.length=bs.length/\abv as_=false/\abv bs=false from⟨HLEN.out,Q1.out,q2⟩);have HAI:=ae (HI.out HOK.out);clear q2;obtain⟨w3,hw3⟩:∃w3,w2.alloc (.cells #[.slice none 0 0,.map none,.slice none 0 0] 183)=w3:=⟨_,rfl⟩;obtain⟨B,hBe⟩:∃B,w2.heap.size=B:=⟨_,rfl⟩;have hB3:Below w.heap.size w w3:=by rw[←hw3];exact HB2.out.alloc HB2.out.size _
 have hwB:w.heap.size<=B:=by rw[←hBe];exact HB2.out.size
 have hz3:w3.heap.size=B+1:=by rw[←hw3,←hBe];simp
 have hG3:IsG B w3.heap.size B B w3 (.slice none 0 0) (.map none) (.slice none 0 0) [] 0 (fun v=>v) []:=by
  rw[←hw3,←hBe];exact aoC w2 w2.heap.size (af _) _
 obtain⟨m0,hm0⟩:=HAI.out.start;have HST:=ae (show AlI I B B w3 as_.length (.int .i64 ((0:Nat):Int)) w3 from⟨0,st0,m0,_,_,_,Nat.zero_le _,rfl,hm0,rfl,hG3,ag _ _⟩);have HB3:=ae hB3;have HBE:=ae hBe;have hB3z:B<=w3.heap.size:=by omega
 clear hG3 hm0 hB3 hz3 hBe;go_wp2;rw[HBE.out]
 go_loopw [29] (fun i wr=>AlI I B B w3 as_.length i wr) (fun i _=>as_.length-(intOf i).toNat)
 case atStart=>exact HST.out
 case round=>
  obtain⟨k,s,m,sv,mv,vv,hk,rfl,hIs,hstk,hG,hBr⟩:=hrel;have hfit:=(HAI.out.hand k).1 s m hIs;have hzr:=hBr.size;have hwr:Below w.heap.size w wr:=HB3.out.trans (hBr.mono hwB);have hBz:B<=wr.heap.size:=by omega
  by_cases hlt:k<as_.length
  ·obtain⟨ba,oa,x,ax,cx,rfl,hba,hx,hxw,ha0,ha1,hAx⟩:=(LS.out wr hwr).1.elem (i:=k) hlt;obtain⟨bb,ob,y,ay,cy,rfl,hbb,hy,hyw,hb0,hb1,hAy⟩:=(LS.out wr hwr).2.elem (i:=k) (by rw[←HLEN.out];exact hlt);obtain⟨m',hI'⟩:=HAI.out.add k s m x y hIs hstk hx hy;have hfit':=(HAI.out.hand (k+1)).1 _ m' hI';have hsl:=hfit.len;have hk0:(0:Int)<=(k:Int):=aw _;have hk1:(k:Int)<(as_.length:Int):=by omega
   have hbaw:ba<B:=by omega
   have hbbw:bb<B:=by omega
   have hown:∀i,afX B sv mv vv i->B<=i:=fun i hi=>hG.own_ge hi;have CN1:=ae (ajQ B wr.heap.size B B sv mv vv s.syms s.n s.R s.vars x ax cx wr.drew hBz (hG.kept (fun _ _=>rfl) hBz) (by omega) hxw ((hAx.mono hwB).below (show Below B wr wr.drew from(ag _ _).drew)))
   have CN2:=ae (show ∀w5 sv5,IsG B wr.heap.size B B w5 sv5 mv vv (abU s.syms x) s.n s.R s.vars->Below B wr w5->Calls Tryz.prog 145 #[.pointer (some ⟨B,0,none⟩),tm y.head ay y.args.length cy] w5 (afY B wr.heap.size B B sv5 mv vv (abU s.syms x) s.n s.R s.vars y w5) from fun w5 sv5 h1 h2=>
    ajQ B wr.heap.size B B sv5 mv vv (abU s.syms x) s.n s.R s.vars y ay cy w5 (aE hBz h2.size) h1 (by have:(abU s.syms x).length<=s.syms.length+1:=(by unfold abU;split;exact Nat.le_succ _;exact Nat.le_of_eq (by simp));omega) hyw ((hAy.mono hwB).below h2))
   have CU:=ae (show ∀w6 sv6,IsG B w6.heap.size B B w6 sv6 mv vv (abU (abU s.syms x) y) s.n s.R s.vars->B<=w6.heap.size->Calls Tryz.prog 144 #[.pointer (some ⟨B,0,none⟩),.agg #[.int .i64 (ahn s.syms x),.int .i64 (ahn (abU s.syms x) y)]] w6 (ae3 (I (k+1)) B B B sv6 mv vv w6) from fun w6 sv6 h1 h2=>
    apG (I (k+1)) (HAI.out.hand (k+1)) B B B sv6 mv vv (ajV s x y) m' _ _ hI' rfl w6 h2 h1)
   have KP:=ae (show ∀W,Below B wr W->W.cell? ⟨ba,oa+k*2,none⟩=some (.int .i64 x.head)/\W.cell? ⟨ba,oa+k*2+1,none⟩=some (.slice ax x.args.length cx)/\W.cell? ⟨bb,ob+k*2,none⟩=some (.int .i64 y.head)/\W.cell? ⟨bb,ob+k*2+1,none⟩=some (.slice ay y.args.length cy)/\Below B wr W from fun W hW=>
    ⟨(hW.cell (p:=⟨ba,_,none⟩) hbaw).trans ha0,(hW.cell (p:=⟨ba,_,none⟩) hbaw).trans ha1,(hW.cell (p:=⟨bb,_,none⟩) hbbw).trans hb0,(hW.cell (p:=⟨bb,_,none⟩) hbbw).trans hb1,hW⟩)
   have HWR:=ae hwr;have HBR:=ae hBr;have HOWN:=ae hown;clear hIs hstk hG hBr hwr hAx hAy hx hy hI' hfit hfit' hown;go_wp2
   go_region_law (first
    |(go_simp;go_at_call 145;refine(CN2.out w5 sv5 hG5 hB5).mono ?_;rintro e w6 ⟨rfl,sv6,hG6,hS6⟩;have hB6:Below B wr w6:=hB5.trans (hS6.below (aE hBz hB5.size) (fun i hi=>hG5.own_ge hi)))
    |(go_simp;go_at_call 145;refine CN1.out.mono ?_;rintro e w5 ⟨rfl,sv5,hG5,hS5⟩;have h05:=hS5.below (B:=B) hBz HOWN.out;have hB5:Below B wr w5:=⟨h05.os,h05.tape,h05.output,h05.size,h05.block⟩;obtain⟨_,_,hy5,hz5,_⟩:=KP.out w5 hB5)
    |(go_simp;go_at_call 144;refine(CU.out w6 sv6 (hG6.mono hB6.size) (aE hBz hB6.size)).mono ?_;intro e w7 hu;obtain⟨ub,rfl,hu2,hbu⟩:=aq8 hG6 (aE hBz hB6.size) hu;have hB7:Below B wr w7:=hB6.trans hbu))
   all_goals
    cases ub
    ·have hu3:∃s m p q rest,I (k+1) s m/\s.stk=rest++[(p,q)]/\afH s p q rest=none:=by
      rcases hu2 with⟨h,_⟩|⟨_,h,_⟩
      ·simp at h
      ·exact h
     obtain⟨s2,m2,p2,q2,rest2,h1,h2,h3⟩:=hu3;have HP:=ae (show abN I as_ bs w (.returned (.tuple #[.slice none 0 0,.bool false,.int .i64 0])) w7 from .inr ⟨HOK.out,.inl ⟨⟨k,s2,m2,p2,q2,rest2,hlt,h1,h2,h3⟩,none,0,rfl,abH.nil _ _ _ (by simp[maxLen]),HWR.out.trans (hB7.mono hwB)⟩⟩);clear h1 h2 h3 hu2 hu hbu hB7 hG6 hS6 hG5 hS5 hB5 hB6 h05;go_wp2;refine bodyPost_ret (v:= .tuple #[.slice none 0 0,.bool false,.int .i64 0]) (by simp[results,Tryz.results102,go_sem]) rfl ?_;exact HP.out
    ·have hu3:∃(s:St) (m:Nat) (sv' mv' vv':Value),I (k+1) s m/\s.stk=[]/\IsG B w7.heap.size B B w7 sv' mv' vv' s.syms s.n s.R s.vars:=by
      rcases hu2 with⟨_,s2,m2,sv2,mv2,vv2,h1,h2,h3,_⟩|⟨h,_⟩
      ·exact⟨s2,m2,sv2,mv2,vv2,h1,h2,h3⟩
      ·simp at h
     have HU:=ae hu3;have HB7:=ae (HBR.out.trans (hB7.mono (af _)));clear hu3 hu2 hu hbu hB7 hG6 hS6 hG5 hS5 hB5 hB6 h05;go_wp2
     go_roundw
     case rel=>
      obtain⟨s2,m2,sv2,mv2,vv2,h1,h2,h3⟩:=HU.out;exact⟨k+1,s2,m2,sv2,mv2,vv2,by omega,by go_num,h1,h2,h3,HB7.out⟩
     case measure=>simp[intOf];omega
  ·obtain rfl:k=as_.length:=by omega
   obtain⟨hok,hvv,f,r,hmes,huni⟩:=HAI.out.last s m hIs hstk;have HRES:=ae (show ∀e w',((r.1=none/\acw [] false 0 w e w')\/∃ms,r.1=some ms/\((aiI ms≠0/\acw [] false (aiI ms) w e w')\/(aiI ms=0/\∃f' u S',alm s.R f' [] (sorted s.vars) r.2=some (u,S')/\acw u true 0 w e w')))->abN I as_ bs w e w' from fun e w' h=> .inr ⟨HOK.out,.inr ⟨s,m,f,r,hIs,hstk,hmes,h⟩⟩)
   obtain⟨va,vc,hva⟩:∃va vc,vv= .slice va s.vars.length vc:=by
    rcases hG.vrow.2 with⟨h,h0⟩|⟨g',cap',cur,h,_⟩
    ·exact⟨none,0,by rw[h,h0]⟩
    ·exact⟨_,cap',h⟩
   subst hva;have g2:wr.cell? ⟨B,2,none⟩=some (.slice va s.vars.length vc):=by simp[World.cell?,hG.heap]
   have hvl:=hfit.vl;have hcnt:=hfit.cnt
   have CS:=ae (show Calls Tryz.prog 146 #[.slice va s.vars.length vc] wr (fun e w'=>e= .returned (.tuple #[])/\IsG B w'.heap.size B B w' sv mv (.slice va s.vars.length vc) s.syms s.n s.R (sorted s.vars)/\Below B wr w') from by
    by_cases hz:s.vars.length=0
    ·have hnil:s.vars=[]:=aC hz;rw[hnil] at hG ⊢;refine(AnyG.slices_Sort_int_none Tryz.laysNode va vc wr).mono ?_;rintro e w' ⟨rfl,rfl⟩;exact⟨rfl,by simpa[sorted] using hG,ag _ _⟩
    ·have hv:=hG.vrow;obtain⟨q,hq⟩:∃q,s.vars.length=q+1:=⟨s.vars.length-1,by omega⟩;obtain⟨gb,cap,hgb⟩:=ownsRow_succ (hq▸hv);rw[←hq] at hgb;simp only[Value.slice.injEq] at hgb;obtain⟨rfl,_,rfl⟩:=hgb;refine(aoB B s.vars gb vc wr (by omega) hv).mono ?_;rintro e w' ⟨rfl,hrow,hgr⟩;refine⟨rfl,(hG.sortVars (by simpa[abl] using hrow) hgr hBz).mono hgr.size,(ag B wr).grown hgr hBz (fun q hq=> ?_)⟩;cases hq;exact(rowBlock hv rfl).1)
   have HOKS:=ae hok;have HMES:=ae hmes;have HUNI:=ae huni;have HVV:=ae (show ∀z∈sorted s.vars,0<=z/\z<256 from fun z hz=>hvv z (by unfold sorted at hz;exact List.mem_mergeSort.1 hz));have HSL:=ae (show(sorted s.vars).length<=100000 from by rw[abl];exact hvl);have HWR:=ae hwr;clear hG hok hvv hmes huni hIs hstk hBr hwr hfit
   go_wp2_with fail
   refine CS.out.mono ?_;rintro e w8 ⟨rfl,hG8,hB8⟩;have hz8:=hB8.size;have CM:=ae (ajW B B B sv mv (.slice va s.vars.length vc) s.n s.R (sorted s.vars) hcnt HSL.out s.syms f r HMES.out HVV.out w8 (by omega) hG8 HOKS.out);have HB8:=ae hB8;have HOWN8:=ae (show ∀i,afX B sv mv (.slice va s.vars.length vc) i->B<=i from fun i hi=>hG8.own_ge hi);clear hG8 hB8
   go_wp2_with fail
   refine CM.out.mono ?_;rintro e w9 ⟨⟨v9,rfl,hv9,hnone9⟩,sv9,hG9,hok9,hst9⟩;have hB9:Below B wr w9:=HB8.out.trans (hst9.below (by omega) HOWN8.out);have hz9:=hB9.size;have HW9:=ae (show Below w.heap.size w w9 from HWR.out.trans (hB9.mono hwB));cases hr1:r.1 with
   |none=>
    have hv:=hnone9 hr1;subst hv;rw[Option.isSome_none];have HP:=ae (HRES.out (.returned (.tuple #[.slice none 0 0,.bool false,.int .i64 0])) w9 (.inl ⟨hr1,none,0,rfl,abH.nil _ _ _ (by simp[maxLen]),HW9.out⟩));clear hv9 hnone9 hG9 hok9 hst9 hB9 hr1;go_wp2;refine bodyPost_ret (v:= .tuple #[.slice none 0 0,.bool false,.int .i64 0]) (by simp[results,Tryz.results102,go_sem]) rfl ?_;exact HP.out
   |some ms=>
    obtain⟨hrow9,hokm⟩:=hv9 ms hr1;rw[Option.isSome_some]
    obtain⟨ma,mc,hma⟩:∃ma mc,v9= .slice ma ms.length mc/\ms.length<=mc/\mc<=maxLen:=by
     rcases hrow9.2 with⟨h,h0⟩|⟨g',cap',cur,h,_,_,h1,h2,_⟩
     ·exact⟨none,0,by rw[h,h0],by omega,by simp[maxLen]⟩
     ·exact⟨_,cap',h,h1,h2⟩
    obtain⟨rfl,hmc1,hmc2⟩:=hma;unfold maxLen at hmc2;have HROW:=ae hrow9;have HOKM:=ae hokm;have HG9:=ae hG9;have HOK9:=ae hok9;have HR1:=ae hr1;have hB9z:B<=w9.heap.size:=by omega
    clear hv9 hnone9 hrow9 hokm hG9 hok9 hst9 hB9 hr1;go_wp2
    go_loopw [57] (fun i wr'=>∃k:Nat,k<=ms.length/\i= .int .i64 k/\aiI ms=aiI (ms.drop k)/\Below w9.heap.size w9 wr') (fun i _=>ms.length-(intOf i).toNat)
    case atStart=>exact⟨0,Nat.zero_le _,rfl,by simp,ag _ _⟩
    case round=>
     obtain⟨j,hj,rfl,hex,hBj⟩:=hrel;have hzj:=hBj.size;by_cases hjl:j<ms.length
     ·obtain⟨p,hp⟩:∃p,ms[j]? =some p:=⟨_,ai hjl⟩;obtain⟨hkl,hke⟩:=ah.1 hp;rw[aD hkl,hke,aiI] at hex;obtain⟨p1,p2⟩:=p;obtain⟨hq1,hq2⟩:=adA hp
      obtain⟨mb,hmb⟩:∃mb,ma=some ⟨mb,0,none⟩:=by
       rcases HROW.out.2 with⟨h,h0⟩|⟨g',cap',cur,h,_⟩
       ·omega
       ·simp only[Value.slice.injEq] at h;exact⟨g',h.1⟩
      subst hmb;have e1:=HROW.out.cells (g:=mb) rfl _ _ hq1;have e2:=HROW.out.cells (g:=mb) rfl _ _ hq2;rw[aaB,Nat.zero_add] at e1 e2;have hmbl:mb<w9.heap.size:=(rowBlock HROW.out rfl).2.1;have e1':=(hBj.cell (p:=⟨mb,_,none⟩) hmbl).trans e1;have e2':=(hBj.cell (p:=⟨mb,_,none⟩) hmbl).trans e2;simp only at e1' e2';have hj0:(0:Int)<=(j:Int):=aw _;have hj1:(j:Int)<(ms.length:Int):=by omega
      have CX:=ae (show ∀W,Calls Tryz.prog 148 #[.agg #[.int .i64 p1,.int .i64 p2]] W fun e w'=>e= .returned (.int .i64 (alg (p1,p2)))/\Below W.heap.size W w' from fun W=>anw (p1,p2) W);have HEX:=ae hex;have HBJ:=ae hBj;have hmbw:mb<wr.heap.size:=by omega
      clear hex hBj hp hq1 hq2 e1 e2
      go_wp2_with fail
      refine(CX.out _).mono ?_;rintro e wc ⟨rfl,hbc⟩;have HBC:=ae (HBJ.out.trans ((((ag wr.heap.size wr).alloc (af _) (.cells #[.int .i64 p1,.int .i64 p2] 194)).trans (hbc.mono (by simp))).mono hzj));clear hbc;by_cases hx0:alg (p1,p2)=0
      ·have H0:=ae (show aiI ms=aiI (ms.drop (j+1)) from by rw[HEX.out,if_pos hx0]);rw[hx0];clear hx0;go_wp2
       go_roundw
       case rel=>exact⟨j+1,by omega,by go_num,H0.out,HBC.out⟩
       case measure=>simp[intOf];omega
      ·obtain⟨ek,hek⟩:∃ek,alg (p1,p2)=ek:=⟨_,rfl⟩;have hxl:aiI ms=ek:=by rw[HEX.out,if_neg hx0,hek]
       rw[hek] at hx0 ⊢;have hef:(ek==0)=false:=by simpa using hx0
       have HP:=ae (HRES.out (.returned (.tuple #[.slice none 0 0,.bool false,.int .i64 ek])) wc (.inr ⟨ms,HR1.out,.inl ⟨by rw[hxl];exact hx0,by rw[hxl];exact⟨none,0,rfl,abH.nil _ _ _ (by simp[maxLen]),HW9.out.trans (HBC.out.mono HW9.out.size)⟩⟩⟩));clear hx0 hxl hek;go_wp2;refine bodyPost_ret (v:= .tuple #[.slice none 0 0,.bool false,.int .i64 ek]) (by simp[results,Tryz.results102,go_sem]) rfl ?_;exact HP.out
     ·obtain rfl:j=ms.length:=by omega
      have hex0:aiI ms=0:=by rw[hex,List.drop_of_length_le (af _)];rfl
      obtain⟨f',u,S',hu⟩:=HUNI.out ms HR1.out hex0;have CF:=ae (aln B B B sv9 mv (.slice va s.vars.length vc) s.n s.R (sorted s.vars) hcnt HSL.out r.2 f' u S' hu HVV.out wr (by omega) ((HG9.out.later hBj hB9z).mono hzj) HOK9.out);have FN:=ae (show ∀a c w',abH (fun b=>wr.heap.size<=b/\b<w'.heap.size) w' u a c->Below B wr w'->abN I as_ bs w (.returned (.tuple #[.slice a u.length c,.bool true,.int .i64 0])) w' from fun a c w' h1 h2=>HRES.out _ _ (.inr ⟨ms,HR1.out,.inr ⟨hex0,f',u,S',hu,a,c,rfl,h1.keep (fun _ _=>rfl) (fun b hb=>⟨aE (HW9.out.trans (hBj.mono HW9.out.size)).size hb.1,hb.2⟩),(HW9.out.trans (hBj.mono HW9.out.size)).trans (h2.mono hwB)⟩⟩));clear hex hBj hex0 hu
      go_wp2_with fail
      refine CF.out.mono ?_;rintro e wd ⟨ad,cd,rfl,hId,hbd⟩;have HP:=ae (FN.out ad cd wd hId hbd);clear hId hbd;go_wp2;refine bodyPost_ret (v:= .tuple #[.slice ad u.length cd,.bool true,.int .i64 0]) (by simp[results,Tryz.results102,go_sem]) rfl ?_;exact HP.out
theorem amo{w:World}{aM:Nat}{x:T}{a:Option Addr}{c:Nat}(hn:aM<=w.heap.size)(hxw:(Lit.int .i64 x.head).wf=true)(hA:aab aM w x.args a c):aab (w.alloc (aaa x.head a x.args.length c)).heap.size (w.alloc (aaa x.head a x.args.length c)) [x] (some ⟨w.heap.size,0,none⟩) 1:=by
 have hb:Below aM w (w.alloc (aaa x.head a x.args.length c)):=(ag _ _).alloc hn _;have h0:(w.alloc (aaa x.head a x.args.length c)).cell? ⟨w.heap.size,0,none⟩=some (.int .i64 x.head):=by simp[go_sem]
 have h1:(w.alloc (aaa x.head a x.args.length c)).cell? ⟨w.heap.size,1,none⟩=some (.slice a x.args.length c):=by simp[go_sem]
 have h2:=(hA.below hb).mono (show aM<=(w.alloc (aaa x.head a x.args.length c)).heap.size by simp;omega);exact⟨by simp,by simp[maxLen],.inr ⟨_,0,rfl,by simp,aaO.2 ⟨hxw,h0,a,c,h1,h2⟩,trivial⟩⟩
theorem atv(I:Nat->St->Nat->Prop)(x y:T)(hI:(abv [x]=false/\abv [y]=false)->aw1 I [x] [y])(hx:x.size<=1000000000000)(hy:y.size<=1000000000000)(aM:Nat)(a:Option Addr)(c:Nat)(a':Option Addr)(c':Nat)(w:World)(hn:aM<=w.heap.size)(hxw:(Lit.int .i64 x.head).wf=true)(hyw:(Lit.int .i64 y.head).wf=true)(hA:aab aM w x.args a c)(hA':aab aM w y.args a' c'):
 Calls Tryz.prog 57 #[tm x.head a x.args.length c,tm y.head a' y.args.length c'] w fun e w'=>∃w0,Below w.heap.size w w0/\abN I [x] [y] w0 e w':=by
 obtain⟨w2,hw2⟩:∃w2,(w.alloc (aaa x.head a x.args.length c)).alloc (aaa y.head a' y.args.length c')=w2:=⟨_,rfl⟩;have hb2:Below w.heap.size w w2:=by rw[←hw2];exact((ag _ w).alloc (af _) _).alloc (by simp) _
 have hz2:w2.heap.size=w.heap.size+2:=by rw[←hw2];simp
 have k0:w2.cell? ⟨w.heap.size,0,none⟩=some (.int .i64 x.head):=by rw[←hw2];simp[go_sem]
 have k1:w2.cell? ⟨w.heap.size,1,none⟩=some (.slice a x.args.length c):=by rw[←hw2];simp[go_sem]
 have k2:w2.cell? ⟨w.heap.size+1,0,none⟩=some (.int .i64 y.head):=by rw[←hw2];simp[go_sem]
 have k3:w2.cell? ⟨w.heap.size+1,1,none⟩=some (.slice a' y.args.length c'):=by rw[←hw2];simp[go_sem]
 have h3:=amo (w:=w2) (by omega) hxw (hA.below (hb2.mono hn));have hb3:Below w2.heap.size w2 (w2.alloc (aaa x.head a x.args.length c)):=(ag _ _).alloc (af _) _;have h4:=amo (w:=w2.alloc (aaa x.head a x.args.length c)) (aM:=aM) (by simp;omega) hyw (hA'.below ((hb2.trans (hb3.mono hb2.size)).mono hn));have hb4:Below (w2.alloc (aaa x.head a x.args.length c)).heap.size (w2.alloc (aaa x.head a x.args.length c)) ((w2.alloc (aaa x.head a x.args.length c)).alloc (aaa y.head a' y.args.length c')):=(ag _ _).alloc (af _) _;have CA:=ae (aq9 I [x] [y] (fun h=>hI h.2) (by simpa using hx) (by simpa using hy) (by simp) (by simp) (some ⟨w2.heap.size,0,none⟩) 1 (some ⟨(w2.alloc (aaa x.head a x.args.length c)).heap.size,0,none⟩) 1 _ ((h3.below hb4).mono hb4.size) h4);have HB:=ae (show Below w.heap.size w ((w2.alloc (aaa x.head a x.args.length c)).alloc (aaa y.head a' y.args.length c')) from(hb2.trans (hb3.mono hb2.size)).trans (hb4.mono (by simp;omega)));have hwl:w.heap.size<w2.heap.size:=by omega
 have hwl2:w.heap.size+1<w2.heap.size:=by omega
 clear h3 h4 hb2 hb3 hb4 hA hA' hz2 hI;simp only[show(w2.alloc (aaa x.head a x.args.length c)).heap.size=w2.heap.size+1 from by simp] at CA;go_enter Tryz.func57,Tryz.ntmps57
 go_wp2_with fail
 refine CA.out.mono ?_;intro e w5 hp
 have hp2:∃s b k,acw s b k ((w2.alloc (aaa x.head a x.args.length c)).alloc (aaa y.head a' y.args.length c')) e w5:=by
  rcases hp with⟨_,h⟩|⟨_,⟨_,h⟩|⟨_,_,_,_,_,_,_,⟨_,h⟩|⟨_,_,⟨_,h⟩|⟨_,_,_,_,_,h⟩⟩⟩⟩<;>exact⟨_,_,_,h⟩
 obtain⟨s5,b5,k5,a5,c5,rfl,hI5,hb5⟩:=hp2;have HP:=ae (show ∃w0,Below w.heap.size w w0/\abN I [x] [y] w0 (.returned (.tuple #[.slice a5 s5.length c5,.bool b5,.int .i64 k5])) w5 from⟨_,HB.out,hp⟩);clear hp hI5 hb5;go_wp2;refine bodyPost_ret (v:= .tuple #[.slice a5 s5.length c5,.bool b5,.int .i64 k5]) (by simp[results,Tryz.results57,go_sem]) rfl ?_;exact HP.out
end Go.Proofs.YtabfapijgfjflaaGreat
