import Derived.Test.YtabfapijgfjflaaGreatMUf
import Derived.Test.YtabfapijgfjflaaGreatMQBm
import Derived.Deep.RegionHeld3
import Derived.Test.YtabfapijgfjflaaGreatMQBl
import Derived.Test.YtabfapijgfjflaaGreatMQBp
import Derived.Test.YtabfapijgfjflaaGreatMQBc
import Derived.Test.YtabfapijgfjflaaGreatMQBa
import Derived.Test.YtabfapijgfjflaaGreatMQBd
import Derived.Test.YtabfapijgfjflaaGreatMQBb
import Derived.Test.YtabfapijgfjflaaGreatMQBo
import Derived.Shelf.Sort.Plain
import Derived.Shelf.Lay
import Derived.Shelf.Slices.CompactI
import Derived.Test.YtabfapijgfjflaaGreatMAl
set_option linter.unusedVariables false
set_option linter.unusedSimpArgs false
set_option maxRecDepth 100000
set_option maxHeartbeats 8000000
namespace Go.Proofs.YtabfapijgfjflaaGreat
open Go.RowKit Go.Maps
structure St where
 syms:List SyU
 n:Nat
 R:Int->Int
 vars:List Int
 stk:List (Int×Int)
def aa5(syms:List SyU)(v:Int):T:=((syms[(v-256).toNat]?).map Prod.fst).getD (vt 0)
def afH(s:St)(p q:Int)(rest:List (Int×Int)):Option St:=
 let a:=s.R p
 let b:=s.R q
 if a=b then some { s with stk:=rest}
 else if a<256/\b<256 then some { s with n:=s.n+1,R:=join s.R (max a b) (min a b),vars:=s.vars++[max a b],stk:=rest}
 else if a<256 then some { s with n:=s.n+1,R:=join s.R a b,vars:=s.vars++[a],stk:=rest}
 else if b<256 then some { s with n:=s.n+1,R:=join s.R b a,vars:=s.vars++[b],stk:=rest}
 else if abF (aa5 s.syms a) (aa5 s.syms b)=false then none
 else
  let x:=aac s.syms a
  let y:=aac x.1 b
  some { syms:=y.1,n:=s.n+1,R:=join s.R a b,vars:=s.vars,stk:=rest++(x.2.zip y.2).reverse}
structure Fit (s:St):Prop where
 len:s.syms.length<=10000
 cnt:s.n<=100000
 vl:s.vars.length<=100000
 sl:s.stk.length<=100000
 sz:∀x∈s.syms,x.1.size<=1000
 made:∀x∈s.syms,x.2=[]\/x.2.length=x.1.args.length
 low:∀p∈s.stk,(0<=p.1/\p.1<100000)/\(0<=p.2/\p.2<100000)
 root:∀p∈s.stk,(0<=s.R p.1/\s.R p.1<256+s.syms.length)/\(0<=s.R p.2/\s.R p.2<256+s.syms.length)
theorem ae1:∀(ts:List T) (syms:List SyU) {x:SyU},x∈(aag syms ts).1->x∈syms\/(x.1∈ts/\x.2=[])
 |[],syms,x,h=> .inl h
 |t::ts,syms,x,h=>by
  rcases ae1 ts (abU syms t) h with h|h
  ·unfold abU at h;split at h
   ·exact .inl h
   ·rcases aG.1 h with h|h
    ·exact .inl h
    ·simp at h;subst h;exact .inr ⟨by simp,rfl⟩
  ·exact .inr ⟨by simp[h.1],h.2⟩
theorem ab0{t s:T}(h:s∈t.args):s.size<t.size:=by
 obtain⟨i,hi⟩:=au h;have:=T.size_lt_of_mem hi;have:=T.size_eq t;omega
theorem abh(t:T):t.args.length<=t.size:=by
 have:=T.sizes_ge_length t.args;have:=T.size_eq t;omega
theorem ae2{syms:List SyU}{v:Int}{x:SyU}(h:x∈(aac syms v).1):x∈syms\/(∃y∈syms,x.1∈y.1.args/\x.2=[])\/(∃y∈syms,x.1=y.1/\x.2.length=y.1.args.length):=by
 unfold aac at h;split at h
 ·exact .inl h
 ·split at h
  ·exact .inl h
  ·rename_i t as_ hs;have hm:=ak hs;split at h
   ·rcases List.mem_or_eq_of_mem_set h with h|h
    ·rcases ae1 _ _ h with h|h
     ·exact .inl h
     ·exact .inr (.inl ⟨_,hm,h.1,h.2⟩)
    ·subst h;exact .inr (.inr ⟨_,hm,rfl,abm _ _⟩)
   ·exact .inl h
theorem aev(syms:List SyU)(v:Int)(hsz:∀x∈syms,x.1.size<=1000):syms.length<=(aac syms v).1.length/\(aac syms v).1.length<=syms.length+1000:=by
 unfold aac;split
 ·exact⟨af _,Nat.le_add_right _ _⟩
 ·split
  ·exact⟨af _,Nat.le_add_right _ _⟩
  ·rename_i t as_ hs;split
   ·obtain⟨l,h,hl⟩:=aa8 t.args syms;have h1:t.size<=1000:=hsz _ (ak hs);have h2:=abh t;simp only[List.length_set,h,aK];omega
   ·exact⟨af _,Nat.le_add_right _ _⟩
theorem agR{syms:List SyU}{v:Int}(hsz:∀x∈syms,x.1.size<=1000):∀x∈(aac syms v).1,x.1.size<=1000:=fun x hx=>by
 rcases ae2 hx with h|⟨y,hy,h,_⟩|⟨y,hy,h,_⟩
 ·exact hsz x h
 ·have:=ab0 h;have:=hsz y hy;omega
 ·rw[h];exact hsz y hy
theorem agS{syms:List SyU}{v:Int}(hm:∀x∈syms,x.2=[]\/x.2.length=x.1.args.length):∀x∈(aac syms v).1,x.2=[]\/x.2.length=x.1.args.length:=fun x hx=>by
 rcases ae2 hx with h|⟨y,hy,_,h⟩|⟨y,hy,h1,h2⟩
 ·exact hm x h
 ·exact .inl h
 ·rw[h1];exact .inr h2
theorem aaz{syms:List SyU}(v:Int){u:Int}(hu:(u-256).toNat<syms.length):aa5 (aac syms v).1 u=aa5 syms u:=by
 unfold aac;split
 ·rfl
 ·split
  ·rfl
  ·rename_i t as_ hs;split
   ·obtain⟨l,h,hl⟩:=aa8 t.args syms;unfold aa5;rw[h];by_cases e:(v-256).toNat=(u-256).toNat
    ·rw[e,List.getElem?_set_self (by rw[aK];omega)];rw[e] at hs;rw[hs];rfl
    ·rw[List.getElem?_set_ne e,List.getElem?_append_left hu]
   ·rfl
theorem abi{syms:List SyU}{v:Int}(hv:¬v<256)(hl:(v-256).toNat<syms.length)(hm:∀x∈syms,x.2=[]\/x.2.length=x.1.args.length):(aac syms v).2.length=(aa5 syms v).args.length:=by
 obtain⟨x,hx⟩:∃x,syms[(v-256).toNat]? =some x:=⟨_,ai hl⟩;obtain⟨t,as_⟩:=x;unfold aac aa5;rw[if_neg hv,hx];simp only[Option.map_some,Option.getD_some];split
 ·exact abm _ _
 ·rename_i hn
  rcases hm _ (ak hx) with h|h
  ·simp only at h;subst h;simp only[List.length_nil] at hn ⊢;omega
  ·exact h
theorem alY{w:World}{base:Nat}{e:TypeId}{size g n m cap:Nat}{xs:List Value}(h:w.ownsRow base e size (.slice (some ⟨g,0,none⟩) n cap) n xs)(hm:m<=n):w.ownsRow base e size (.slice (some ⟨g,0,none⟩) m cap) m (xs.take (m*size)):=by
 obtain⟨h1,h2⟩:=h;have hms:m*size<=n*size:=Nat.mul_le_mul_right _ hm;refine⟨by rw[List.length_take];omega,?_⟩
 rcases h2 with⟨h2,_⟩|⟨g',cap',cur,h2,h3,h4,h5,h6,h7,h8⟩
 ·cases h2
 ·cases h2;refine .inr ⟨g,cap,cur,rfl,h3,h4,by omega,h6,h7,?_⟩;rw[←h8,List.take_take,show min (m*size) (n*size)=m*size from by omega]
theorem akE(l:List (Int×Int))(p:Int×Int):(aaE (l++[p])).take (l.length*2)=aaE l:=by
 rw[adg,←ahf,List.take_left]
theorem aew{B L aM g:Nat}{W:World}{sv mv vv:Value}{syms:List SyU}{n:Nat}{R:Int->Int}{vars:List Int}(hG:IsG B L aM g W sv mv vv syms n R vars){base k:Nat}{v:Value}{xs:List Value}(hr:W.ownsRow base 188 2 v k xs)(hb:aM<=base){i:Nat}(hi:v.ownBlock=some i):¬(i<aM\/afX g sv mv vv i\/aaW B L W vv i):=fun e=>by
 obtain⟨h1,h2,cur,hc⟩:=rowBlock hr hi
 rcases e with e|e|e
 ·omega
 ·rcases e with rfl|e|e|e
  ·rw[hG.heap] at hc;simp at hc
  ·obtain⟨ys,r1,_⟩:=hG.rows;obtain⟨_,_,c',hc'⟩:=rowBlock r1 e;rw[hc'] at hc;simp at hc
  ·obtain⟨_,_,es,cl,hc'⟩:=hG.links.map_block e;rw[hc'] at hc;cases hc
  ·obtain⟨_,_,c',hc'⟩:=rowBlock hG.vrow e;rw[hc'] at hc;simp at hc
 ·obtain⟨_,_,_,c',hc'⟩:=e;rw[hc'] at hc;simp at hc
theorem GStep.rstep{g:Nat}{sv mv vv sv' mv' vv':Value}{w wr w':World}{v v':Value}(h:GStep g sv mv vv w sv' mv' vv' wr)(k:aej v wr v' w')(hv:∀i,v.ownBlock=some i->w.heap.size<=i):GStep g sv mv vv w sv' mv' vv' w':=
 ⟨k.os.trans h.os,k.tape.trans h.tape,k.output.trans h.output,aE h.size k.size,fun i hi hn=>(k.block i (aF hi h.size) (fun e=>by have:=hv i e;omega)).trans (h.block i hi hn),h.own⟩
def alZ(I:St->Nat->Prop):Prop:=
 (∀s m,I s m->Fit s)/\∀s m p q rest s',I s m->s.stk=rest++[(p,q)]->afH s p q rest=some s'->∃m',m'<m/\I s' m'
def awD(I:St->Nat->Prop)(B aM g:Nat)(sv mv vv:Value)(w:World)(m:Nat)(v:Value)(wr:World):Prop:=
 ∃(s:St) (sv' mv' vv':Value),I s m/\IsG B wr.heap.size aM g wr sv' mv' vv' s.syms s.n s.R s.vars/\wr.ownsRow w.heap.size 188 2 v s.stk.length (aaE s.stk)/\GStep g sv mv vv w sv' mv' vv' wr
def ae3(I:St->Nat->Prop)(B aM g:Nat)(sv mv vv:Value)(w:World)(e:Ending)(w':World):Prop:=
 (e= .returned (.bool true)/\∃(s:St) (m:Nat) (sv' mv' vv':Value),I s m/\s.stk=[]/\IsG B w'.heap.size aM g w' sv' mv' vv' s.syms s.n s.R s.vars/\GStep g sv mv vv w sv' mv' vv' w')\/
 (e= .returned (.bool false)/\(∃s m p q rest,I s m/\s.stk=rest++[(p,q)]/\afH s p q rest=none)/\Below B w w')
def ar0(B n:Nat)(mv:Value)(R:Int->Int)(wr w':World):Prop:=ady B w' mv n R/\wr.grownBy w' (Value.mapBlock mv)
theorem aii{B L:Nat}{W:World}{vv:Value}{as_:List Int}{r v:Value}(h:ab3 B L W vv as_ r)(hv:∀k,v.ownBlock=some k->¬aaW B L W vv k):∃a c,r= .slice a as_.length c/\aff W v as_ a/\(as_.length<=c/\c<=maxLen):=by
 rcases h with⟨rfl,rfl⟩|⟨ab,cap,rfl,h1,h2,h3,h4⟩
 ·exact⟨none,0,rfl,fun j z hz=>by simp at hz,by simp,by simp[maxLen]⟩
 ·exact⟨_,cap,rfl,fun j z hz=>⟨ab,rfl,h4 j z hz,fun e=>hv ab e h1⟩,h2,h3⟩
theorem abf(v:Int)(w:World):Calls Tryz.prog 182 #[.int .i64 v] w fun e w'=>e= .returned (.bool (decide (v<256)))/\w=w':=(aeI v w).mono fun e w' h=>⟨h.1,h.2.symm⟩
theorem apG(I:St->Nat->Prop)(hI:alZ I)(B aM g:Nat)(sv mv vv:Value)(s0:St)(m0:Nat)(p0 q0:Int)(h0:I s0 m0)(hs0:s0.stk=[(p0,q0)])(w:World)(hB:B<=w.heap.size)(hG:IsG B w.heap.size aM g w sv mv vv s0.syms s0.n s0.R s0.vars):
 Calls Tryz.prog 144 #[.pointer (some ⟨g,0,none⟩),.agg #[.int .i64 p0,.int .i64 q0]] w (ae3 I B aM g sv mv vv w):=by
 have HI:=ae hI
 have HST:=ae (show awD I B aM g sv mv vv w m0 (.slice (some ⟨w.heap.size+1,0,none⟩) 1 1) ((w.alloc (.cells #[.int .i64 p0,.int .i64 q0] 188)).alloc (.cells #[.int .i64 p0,.int .i64 q0] 188)) from by
  have hb:∀o1 o2,Below w.heap.size w ((w.alloc o1).alloc o2):=fun o1 o2=>((ag _ w).alloc (af _) o1).alloc (by simp) o2;refine⟨s0,sv,mv,vv,h0,(hG.later (hb _ _) hB).mono (by simp;omega),?_,GStep.later (hb _ _)⟩;rw[hs0];have h:=World.ownsRow_lit (base:=w.heap.size) (e:=188) (size:=2) (w.alloc (.cells #[.int .i64 p0,.int .i64 q0] 188)) #[.int .i64 p0,.int .i64 q0] 1 (by simp) (by unfold maxLen;omega) rfl;simpa[aaE] using h)
 have HG:=ae hG;clear hI h0 hs0 hG;go_enter Tryz.func144,Tryz.ntmps144;go_wp2
 go_loopg [5] m0 (fun m v wr=>awD I B aM g sv mv vv w m v wr)
 case atStart=>exact HST.out
 case round=>
  clear HST;obtain⟨s,sv',mv',vv',hIs,hG',hrow,hS⟩:=hrel;have hfit:=HI.out.1 s gk hIs;have hsz:=hS.size;have hn0:aM<=w.heap.size:=aE hG'.low hB
  rcases List.eq_nil_or_concat s.stk with hnil|⟨rest,pq,hstk⟩
  ·
   rw[hnil] at hrow
   obtain⟨va,vc,hvv⟩:∃va vc,u5= .slice va 0 vc:=by
    rcases hrow.2 with⟨h,_⟩|⟨g',cap',cur,h,_⟩
    ·exact⟨none,0,h⟩
    ·exact⟨_,cap',h⟩
   subst hvv;have HP:=ae (show ae3 I B aM g sv mv vv w (.returned (.bool true)) wr from .inl ⟨rfl,s,gk,sv',mv',vv',hIs,hnil,hG',hS⟩);clear hIs hG' hrow hS hfit hnil;go_wp2;go_ret;exact HP.out
  ·obtain⟨p,q⟩:=pq;rw[List.concat_eq_append] at hstk;have hlen:s.stk.length=rest.length+1:=by rw[hstk];simp
   have hmem:(p,q)∈s.stk:=by rw[hstk];simp
   rw[hlen] at hrow;obtain⟨sb,scap,hsv⟩:=ownsRow_succ hrow;subst hsv;obtain⟨hcp,hcq⟩:=adA (l:=s.stk) (k:=rest.length) (p:=(p,q)) (by rw[hstk];simp);have e0:=hrow.cells (g:=sb) rfl _ _ hcp;have e1:=hrow.cells (g:=sb) rfl _ _ hcq;rw[aaB,Nat.zero_add] at e0 e1;have hsbw:w.heap.size<=sb/\sb<wr.heap.size:=⟨(rowBlock hrow rfl).1,(rowBlock hrow rfl).2.1⟩;obtain⟨⟨hp0,hp1⟩,⟨hq0,hq1⟩⟩:=hfit.low _ hmem;simp only at hp0 hp1 hq0 hq1;obtain⟨⟨ha0,ha1⟩,⟨hb0,hb1⟩⟩:=hfit.root _ hmem;simp only at ha0 ha1 hb0 hb1
   have hcap:rest.length+1<=scap/\scap<=maxLen:=by
    rcases hrow.2 with⟨h,_⟩|⟨g',cap',cu',hv',_,_,h1,h2,_⟩
    ·cases h
    ·simp only[Value.slice.injEq] at hv';obtain⟨_,_,rfl⟩:=hv';exact⟨h1,h2⟩
   unfold maxLen at hcap;obtain⟨hcap1,hcap2⟩:=hcap;have hrl:rest.length<=100000:=by have:=hfit.sl;omega
   have hmg:=hG'.mv_ne;have hpn:=aew hG' hrow hn0 (i:=sb) rfl;have hmsb:Value.mapBlock mv'≠some sb:=fun e=>hpn (.inr (.inl (.inr (.inr (.inl e)))));have hgl:=hG'.lt;have hg1:wr.cell? ⟨g,1,none⟩=some mv':=by simp[World.cell?,hG'.heap]
   have CE:=ae (show ∀W x,ar0 B s.n mv' s.R wr W->0<=x->x<100000->Calls Tryz.prog 181 #[.pointer (some ⟨g,1,none⟩),.int .i64 x] W (fun e W'=>e= .returned (.int .i64 (s.R x))/\ar0 B s.n mv' s.R wr W') from fun W x hE h1 h2=>by
    refine(amj B g 1 s.n mv' s.R x ⟨by omega,by omega⟩ (by have:=hfit.cnt;omega) W ((cell_grown hE.2 (p:=⟨g,1,none⟩) hgl (fun e=>hmg e.symm)).trans hg1) hE.1 hmg).mono ?_;rintro e W' ⟨h3,h4,h5⟩;exact⟨h3,h4,aeH hE.2 h5⟩)
   have KP:=ae (show ∀W,ar0 B s.n mv' s.R wr W->W.cell? ⟨sb,rest.length*2,none⟩=some (.int .i64 p)/\W.cell? ⟨sb,rest.length*2+1,none⟩=some (.int .i64 q)/\ar0 B s.n mv' s.R wr W from fun W hE=>
    ⟨(cell_grown hE.2 (p:=⟨sb,rest.length*2,none⟩) hsbw.2 (fun e=>hmsb e.symm)).trans e0,(cell_grown hE.2 (p:=⟨sb,rest.length*2+1,none⟩) hsbw.2 (fun e=>hmsb e.symm)).trans e1,hE⟩)
   have HE0:=ae (show ar0 B s.n mv' s.R wr wr from⟨hG'.links,adz _ _⟩);have HE1:=ae (show ar0 B s.n mv' s.R wr wr.drew from⟨hG'.links,⟨rfl,rfl,rfl,af _,fun _ _ _=>rfl⟩⟩);have HALL:=ae (And.intro hIs (And.intro hG' (And.intro hrow (And.intro hS (And.intro hfit (And.intro hstk hmem))))));clear hIs hG' hrow hS hfit hstk hmem hlen hcp hcq hpn;go_wp2;have hl0:(0:Int)<=(rest.length:Int):=aw _;have hl1:(rest.length:Int)<((rest.length+1:Nat):Int):=by omega
   have hl2:(rest.length:Int)<(rest.length:Int)+1:=by omega
   have hl3:rest.length<rest.length+1:=by omega
   refine wp_region_noPanic ?_
   go_region_held3 (fun w'=>w'.cell? ⟨sb,rest.length*2,none⟩=some (.int .i64 p)/\w'.cell? ⟨sb,rest.length*2+1,none⟩=some (.int .i64 q)/\ar0 B s.n mv' s.R wr w')
    (first
     |exact KP.out _ HE0.out
     |exact KP.out _ HE1.out
     |exact KP.out _ hE)
    (first
     |(go_at_call 181;with_reducible refine(CE.out _ p (‹_/\_/\ar0 B s.n mv' s.R wr _›).2.2 hp0 hp1).mono ?_;rintro e w5 ⟨rfl,hE⟩)
     |(go_at_call 181;with_reducible refine(CE.out _ q (‹_/\_/\ar0 B s.n mv' s.R wr _›).2.2 hq0 hq1).mono ?_;rintro e w6 ⟨rfl,hE⟩))
   refine NoPanic.normal ?_;obtain⟨hIs,hG',hrow,hS,hfit,hstk,hmem⟩:=HALL.out;have hs6:=hE.2;have hG6:IsG B w6.heap.size aM g w6 sv' mv' vv' s.syms s.n s.R s.vars:=(hG'.afterBind (aE hB hsz) ((hs6.block g hgl (fun e=>hmg e.symm)).trans hG'.heap) hE.1 (fun i h1 _ h3=>hs6.block i h1 (fun e=>h3 e.symm))).mono hs6.size;have hS6:GStep g sv mv vv w sv' mv' vv' w6:=hS.trans ⟨hs6.os,hs6.tape,hs6.output,hs6.size,fun i hi hn=>hs6.block i hi (fun e=>hn (.inr (.inr (.inl e.symm)))),fun _ _ h=>h⟩
   have hrow6:w6.ownsRow w.heap.size 188 2 (.slice (some ⟨sb,0,none⟩) (rest.length+1) scap) (rest.length+1) (aaE s.stk):=ownsRow_kept hrow (fun b hb=>by
    cases hb;exact hs6.block sb hsbw.2 (fun e=>hmsb e.symm))
   have hrow7:=alY hrow6 (m:=rest.length) (by omega);rw[hstk,akE] at hrow7;have hz6:=hS6.size;have hB6:B<=w6.heap.size:=by omega
   have HSTEP:=ae (show ∀s',afH s p q rest=some s'->∃m',m'<gk/\I s' m' from fun s' h=>HI.out.2 s gk p q rest s' hIs hstk h);have HNONE:=ae (show ∀w',Below w6.heap.size w6 w'->afH s p q rest=none->ae3 I B aM g sv mv vv w (.returned (.bool false)) w' from fun w' hb h=> .inr ⟨rfl,⟨s,gk,p,q,rest,hIs,hstk,h⟩,(hS6.below hB (fun i hi=>HG.out.own_ge hi)).trans (hb.mono hB6)⟩);have hida:=hG6.links.idem p;have hidb:=hG6.links.idem q;have HROW:=ae hrow7;have HG6:=ae hG6;have HS6:=ae hS6;have HFIT:=ae hfit;have HU:=ae (show ∀a b,s.R p=a->s.R q=b->afH s p q rest=afH s p q rest from fun _ _ _ _=>rfl)
   have hus:afH s p q rest=(let a:=s.R p;let b:=s.R q;if a=b then some { s with stk:=rest}
    else if a<256/\b<256 then some { s with n:=s.n+1,R:=join s.R (max a b) (min a b),vars:=s.vars++[max a b],stk:=rest}
    else if a<256 then some { s with n:=s.n+1,R:=join s.R a b,vars:=s.vars++[a],stk:=rest}
    else if b<256 then some { s with n:=s.n+1,R:=join s.R b a,vars:=s.vars++[b],stk:=rest}
    else if abF (aa5 s.syms a) (aa5 s.syms b)=false then none
    else some { syms:=(aac (aac s.syms a).1 b).1,n:=s.n+1,R:=join s.R a b,vars:=s.vars,stk:=rest++((aac s.syms a).2.zip (aac (aac s.syms a).1 b).2).reverse}):=rfl
   simp only at hus;have hsl:=HFIT.out.len;generalize s.R p=a at*;generalize s.R q=b at*;have HUS:=ae hus;have HIDA:=ae hida;have HIDB:=ae hidb
   have FIN:=ae (show ∀(s':St) (m':Nat) (sv2 mv2 vv2:Value) (w':World),I s' m'->s'.stk=rest->IsG B w'.heap.size aM g w' sv2 mv2 vv2 s'.syms s'.n s'.R s'.vars->GStep g sv' mv' vv' w6 sv2 mv2 vv2 w'->awD I B aM g sv mv vv w m' (.slice (some ⟨sb,0,none⟩) rest.length scap) w' from fun s' m' sv2 mv2 vv2 w' h1 h2 h3 h4=>by
    refine⟨s',sv2,mv2,vv2,h1,h3,?_,hS6.trans h4⟩;rw[h2];exact ownsRow_kept hrow7 (fun i hi=>h4.block i (rowBlock hrow7 hi).2.1 (fun e=>aew hG6 hrow7 hn0 hi (.inr (.inl e)))))
   clear hIs hG' hrow hS hfit hstk hmem hs6 hG6 hS6 hrow6 hrow7 hus hida hidb HALL HU hE CE KP HE0 HE1 e0 e1;by_cases hab:a=b
   ·obtain⟨m',hm',hI'⟩:=HSTEP.out { s with stk:=rest} (by rw[HUS.out,if_pos hab]);have HREL:=ae (FIN.out _ m' sv' mv' vv' w6 hI' rfl HG6.out (GStep.refl _ _ _ _ _));subst hab;clear hI';go_wp2
    go_roundg m'
    case measure=>exact hm'
    case rel=>exact HREL.out
   ·have hne:(a==b)=false:=by simpa using hab
    by_cases hva:a<256
    ·have HDA:=ae (decide_eq_true hva);by_cases hvb:b<256
     ·have HDB:=ae (decide_eq_true hvb)
      rcases Int.lt_or_gt_of_ne hab with hlt|hlt
      ·have hle:a<=b:=by omega
       obtain⟨m',hm',hI'⟩:=HSTEP.out _ (by rw[HUS.out,if_neg hab,if_pos ⟨hva,hvb⟩,Int.max_eq_right hle,Int.min_eq_left hle]);have CB:=ae (adf B w6.heap.size aM g sv' mv' vv' s.syms s.n s.R s.vars b a ⟨by omega,by omega⟩ ⟨by omega,by omega⟩ HIDB.out (by rw[HIDA.out];exact hab) (by have:=HFIT.out.cnt;omega) (by have:=HFIT.out.vl;omega) w6 hB6 (af _) HG6.out);have HI':=ae hI';clear hI'
       go_wp2_with fail
       refine(abf a w6).mono ?_;rintro e _ ⟨rfl,rfl⟩;rw[HDA.out]
       go_wp2_with fail
       refine(abf b w6).mono ?_;rintro e _ ⟨rfl,rfl⟩;rw[HDB.out]
       go_wp2_with fail
       all_goals first|omega|skip
       try rw[Int.max_eq_right hle,Int.min_eq_left hle]
       refine CB.out.mono ?_;rintro e w7 ⟨rfl,mv2,vv2,hG7,hS7⟩;have HREL:=ae (FIN.out _ m' sv' mv2 vv2 w7 HI'.out rfl (hG7.mono hS7.size) hS7);clear hG7 hS7;go_wp2
       go_roundg m'
       case measure=>exact hm'
       case rel=>exact HREL.out
      ·have hle:b<=a:=by omega
       obtain⟨m',hm',hI'⟩:=HSTEP.out _ (by rw[HUS.out,if_neg hab,if_pos ⟨hva,hvb⟩,Int.max_eq_left hle,Int.min_eq_right hle]);have CB:=ae (adf B w6.heap.size aM g sv' mv' vv' s.syms s.n s.R s.vars a b ⟨by omega,by omega⟩ ⟨by omega,by omega⟩ HIDA.out (by rw[HIDB.out];exact(fun e=>hab e.symm)) (by have:=HFIT.out.cnt;omega) (by have:=HFIT.out.vl;omega) w6 hB6 (af _) HG6.out);have HI':=ae hI';clear hI'
       go_wp2_with fail
       refine(abf a w6).mono ?_;rintro e _ ⟨rfl,rfl⟩;rw[HDA.out]
       go_wp2_with fail
       refine(abf b w6).mono ?_;rintro e _ ⟨rfl,rfl⟩;rw[HDB.out]
       go_wp2_with fail
       all_goals first|omega|skip
       try rw[Int.max_eq_left hle,Int.min_eq_right hle]
       refine CB.out.mono ?_;rintro e w7 ⟨rfl,mv2,vv2,hG7,hS7⟩;have HREL:=ae (FIN.out _ m' sv' mv2 vv2 w7 HI'.out rfl (hG7.mono hS7.size) hS7);clear hG7 hS7;go_wp2
       go_roundg m'
       case measure=>exact hm'
       case rel=>exact HREL.out
     ·have HDB:=ae (decide_eq_false hvb);obtain⟨m',hm',hI'⟩:=HSTEP.out _ (by rw[HUS.out,if_neg hab,if_neg (fun h=>hvb h.2),if_pos hva]);have CB:=ae (adf B w6.heap.size aM g sv' mv' vv' s.syms s.n s.R s.vars a b ⟨by omega,by omega⟩ ⟨by omega,by omega⟩ HIDA.out (by rw[HIDB.out];exact(fun e=>hab e.symm)) (by have:=HFIT.out.cnt;omega) (by have:=HFIT.out.vl;omega) w6 hB6 (af _) HG6.out);have HI':=ae hI';clear hI'
      go_wp2_with fail
      refine(abf a w6).mono ?_;rintro e _ ⟨rfl,rfl⟩;rw[HDA.out]
      go_wp2_with fail
      refine(abf b w6).mono ?_;rintro e _ ⟨rfl,rfl⟩;rw[HDB.out]
      go_wp2_with fail
      refine(abf a w6).mono ?_;rintro e _ ⟨rfl,rfl⟩;rw[HDA.out]
      go_wp2_with fail
      refine CB.out.mono ?_;rintro e w7 ⟨rfl,mv2,vv2,hG7,hS7⟩;have HREL:=ae (FIN.out _ m' sv' mv2 vv2 w7 HI'.out rfl (hG7.mono hS7.size) hS7);clear hG7 hS7;go_wp2
      go_roundg m'
      case measure=>exact hm'
      case rel=>exact HREL.out
    ·have HDA:=ae (decide_eq_false hva);by_cases hvb:b<256
     ·have HDB:=ae (decide_eq_true hvb);obtain⟨m',hm',hI'⟩:=HSTEP.out _ (by rw[HUS.out,if_neg hab,if_neg (fun h=>hva h.1),if_neg hva,if_pos hvb]);have CB:=ae (adf B w6.heap.size aM g sv' mv' vv' s.syms s.n s.R s.vars b a ⟨by omega,by omega⟩ ⟨by omega,by omega⟩ HIDB.out (by rw[HIDA.out];exact hab) (by have:=HFIT.out.cnt;omega) (by have:=HFIT.out.vl;omega) w6 hB6 (af _) HG6.out);have HI':=ae hI';clear hI'
      go_wp2_with fail
      refine(abf a w6).mono ?_;rintro e _ ⟨rfl,rfl⟩;rw[HDA.out]
      go_wp2_with fail
      refine(abf a w6).mono ?_;rintro e _ ⟨rfl,rfl⟩;rw[HDA.out]
      go_wp2_with fail
      refine(abf b w6).mono ?_;rintro e _ ⟨rfl,rfl⟩;rw[HDB.out]
      go_wp2_with fail
      refine CB.out.mono ?_;rintro e w7 ⟨rfl,mv2,vv2,hG7,hS7⟩;have HREL:=ae (FIN.out _ m' sv' mv2 vv2 w7 HI'.out rfl (hG7.mono hS7.size) hS7);clear hG7 hS7;go_wp2
      go_roundg m'
      case measure=>exact hm'
      case rel=>exact HREL.out
     ·have HDB:=ae (decide_eq_false hvb);obtain⟨i,rfl⟩:∃i:Nat,a=256+(i:Int):=⟨(a-256).toNat,by omega⟩;obtain⟨j,rfl⟩:∃j:Nat,b=256+(j:Int):=⟨(b-256).toNat,by omega⟩;have hil:i<s.syms.length:=by omega
      have hjl:j<s.syms.length:=by omega
      obtain⟨ti,as_,hsi⟩:∃t as_,s.syms[i]? =some (t,as_):=⟨s.syms[i].1,s.syms[i].2,ai hil⟩;obtain⟨tj,bs,hsj⟩:∃t as_,s.syms[j]? =some (t,as_):=⟨s.syms[j].1,s.syms[j].2,ai hjl⟩;have hTi:aa5 s.syms (256+(i:Int))=ti:=by unfold aa5;rw[show((256+(i:Int))-256).toNat=i from by omega,hsi];rfl
      have hTj:aa5 s.syms (256+(j:Int))=tj:=by unfold aa5;rw[show((256+(j:Int))-256).toNat=j from by omega,hsj];rfl
      have CA:=ae (aqM B w6.heap.size aM g sv' mv' vv' s.syms s.n s.R s.vars i j ti tj as_ bs w6 hB6 HG6.out (by omega) hsi hsj);have hus:=HUS.out;rw[if_neg hab,if_neg (fun h=>hva h.1),if_neg hva,if_neg hvb,hTi,hTj] at hus;have HUS2:=ae hus;have HSI:=ae hsi;have HTI:=ae hTi;have HTJ:=ae hTj;have HAB:=ae hab;clear hus hTi hTj hsi hsj
      go_wp2_with fail
      refine(abf (256+(i:Int)) w6).mono ?_;rintro e _ ⟨rfl,rfl⟩;rw[HDA.out]
      go_wp2_with fail
      refine(abf (256+(i:Int)) w6).mono ?_;rintro e _ ⟨rfl,rfl⟩;rw[HDA.out]
      go_wp2_with fail
      refine(abf (256+(j:Int)) w6).mono ?_;rintro e _ ⟨rfl,rfl⟩;rw[HDB.out]
      go_wp2_with fail
      refine CA.out.mono ?_;rintro e w7 ⟨rfl,hb7⟩;cases qa:abF ti tj
      ·have HP:=ae (HNONE.out w7 hb7 (by rw[HUS2.out,if_pos qa]));clear hb7;go_wp2;go_ret;exact HP.out
      ·have hus:=HUS2.out;rw[qa,if_neg (by simp)] at hus;obtain⟨m',hm',hI'⟩:=HSTEP.out _ hus;have HI':=ae hI';have hG7:=(HG6.out.later hb7 hB6).mono hb7.size;have hz7:=hb7.size;have hS7:GStep g sv' mv' vv' w6 sv' mv' vv' w7:=GStep.later hb7;have hB7:B<=w7.heap.size:=by omega
       have CB:=ae (anj B g s.n sv' mv' vv' s.R (256+(i:Int)) (256+(j:Int)) ⟨by omega,by omega⟩ ⟨by omega,by omega⟩ HIDA.out (by rw[HIDB.out];exact fun e=>HAB.out e.symm) (by have:=HFIT.out.cnt;omega) w7 hB7 hG7.heap hG7.links);have HG7:=ae hG7;have HS7:=ae hS7;have HQA:=ae qa;clear hI' hus hG7 hS7 hb7 qa
       go_wp2_with fail
       refine CB.out.mono ?_;rintro e w8 ⟨rfl,mv2,h81,h82,hS8,h83⟩;have hz8:=hS8.size;have hB8:B<=w8.heap.size:=by omega
       have hG8:=(HG7.out.afterBind hB7 h81 h82 h83).mono hz8;have HS8:=ae (HS7.out.trans hS8);have hb8:∀x∈s.syms,x.1.args.length<=1000:=fun x hx=>aE (abh _) (HFIT.out.sz x hx);have CX:=ae (af0 B aM g sv' mv2 vv' s.syms (s.n+1) (join s.R (256+(i:Int)) (256+(j:Int))) s.vars (256+(i:Int)) w8 hB8 hG8 (by omega) (by omega) (by omega) hb8);clear h81 h82 hS8 h83 hG8 hb8
       go_wp2_with fail
       refine CX.out.mono ?_;rintro e w9 ⟨r1,sv3,rfl,hG9,hS9,hr1⟩;have hz9:=hS9.size;have hB9:B<=w9.heap.size:=by omega
       obtain⟨hl1,hl2⟩:=aev s.syms (256+(i:Int)) HFIT.out.sz;have hb9:∀x∈(aac s.syms (256+(i:Int))).1,x.1.args.length<=1000:=fun x hx=>aE (abh _) (agR HFIT.out.sz x hx);have CY:=ae (af0 B aM g sv3 mv2 vv' (aac s.syms (256+(i:Int))).1 (s.n+1) (join s.R (256+(i:Int)) (256+(j:Int))) s.vars (256+(j:Int)) w9 hB9 hG9 (by omega) (by omega) (by omega) hb9);have HS9:=ae (HS8.out.trans hS9);have HG9:=ae hG9;have HR1:=ae hr1;clear hG9 hS9 hr1 hb9
       go_wp2_with fail
       refine CY.out.mono ?_;rintro e wa ⟨r2,sv4,rfl,hGa,hSa,hr2⟩;have hza:=hSa.size;have hBa:B<=wa.heap.size:=by omega
       have hr1:=(ab3.step HG9.out HR1.out hSa).mono hza;have hSt:=HS9.out.trans hSa;have hrowa:wa.ownsRow w.heap.size 188 2 (.slice (some ⟨sb,0,none⟩) rest.length scap) rest.length (aaE rest):=ownsRow_kept HROW.out (fun k hk=>hSt.block k (rowBlock HROW.out hk).2.1 (fun e=>aew HG6.out HROW.out hn0 hk (.inr (.inl e))));have hpa:=fun k hk=>aew hGa hrowa hn0 (i:=k) hk;have hmade1:=agS (v:=256+(i:Int)) HFIT.out.made;have hx2:(aac s.syms (256+(i:Int))).2.length=ti.args.length:=by rw[abi (v:=256+(i:Int)) (by omega) (by omega) HFIT.out.made,HTI.out]
       have hy2:(aac (aac s.syms (256+(i:Int))).1 (256+(j:Int))).2.length=tj.args.length:=by
        rw[abi (v:=256+(j:Int)) (by omega) (by omega) hmade1,aaz _ (by omega),HTJ.out]
       have hal:ti.args.length=tj.args.length:=by
        have:=HQA.out;unfold abF at this;rw[Bool.and_eq_true] at this;exact of_decide_eq_true this.2
       have hti:ti.args.length<=1000:=by
        refine aE (abh _) (HFIT.out.sz (ti,as_) ?_);exact ak HSI.out
       obtain⟨X,hX⟩:∃X,(aac s.syms (256+(i:Int))).2=X:=⟨_,rfl⟩;obtain⟨Y,hY⟩:∃Y,(aac (aac s.syms (256+(i:Int))).1 (256+(j:Int))).2=Y:=⟨_,rfl⟩;rw[hX] at hr1 hx2;rw[hY] at hr2 hy2;obtain⟨ra,rc,rfl,hra,hrc⟩:=aii hr1 (v:= .slice (some ⟨sb,0,none⟩) rest.length scap) (fun k hk hn=>hpa k hk (.inr (.inr hn)));obtain⟨ra2,rc2,rfl,hra2,hrc2⟩:=aii hr2 (v:= .slice (some ⟨sb,0,none⟩) rest.length scap) (fun k hk hn=>hpa k hk (.inr (.inr hn)));have CP:=ae (asG X Y (by omega) (by omega) ra rc ra2 rc2 hrc hrc2 rest hrl w.heap.size (.slice (some ⟨sb,0,none⟩) rest.length scap) wa (by omega) hrowa hra hra2)
       have FN2:=ae (show ∀v' w',w'.ownsRow w.heap.size 188 2 v' (rest++(X.zip Y).reverse).length (aaE (rest++(X.zip Y).reverse))->aej (.slice (some ⟨sb,0,none⟩) rest.length scap) wa v' w'->awD I B aM g sv mv vv w m' v' w' from fun v' w' h1 h2=>by
        refine⟨_,sv4,mv2,vv',HI'.out,?_,?_,(HS6.out.trans hSt).rstep h2 (fun k hk=>(rowBlock hrowa hk).1)⟩
        ·exact(hGa.keptBut (fun k hk=>h2.block k (by
          rcases hk with hk|hk|hk
          ·omega
          ·exact hGa.own_lt hk
          ·exact hk.lt) (fun e=>hpa k e hk))).mono h2.size
        ·rw[hX,hY];exact h1)
       clear hGa hSa hr1 hr2 hSt hrowa hpa hmade1 hx2 hy2 hal hti hX hY hra hrc hra2 hrc2 hl1 hl2
       go_wp2_with fail
       refine CP.out.mono ?_;rintro e wb ⟨v',rfl,hrb,hRb⟩;have HREL:=ae (FN2.out v' wb hrb hRb);clear hrb hRb;go_wp2
       go_roundg m'
       case measure=>exact hm'
       case rel=>exact HREL.out
end Go.Proofs.YtabfapijgfjflaaGreat
namespace Go.Proofs.YtabfapijgfjflaaGreat
open Go.RowKit
def wgt(x:SyU):Nat:=if x.2.length<x.1.args.length then x.1.size else 1
def pot(S:List SyU):Nat:=(S.map wgt).sum
theorem aue(x:SyU):1<=wgt x:=by unfold wgt;have:=T.size_pos x.1;split<;>omega
theorem an4(S U:List SyU):pot (S++U)=pot S+pot U:=by simp[pot]
theorem aex(S:List SyU):S.length<=pot S:=by
 induction S with
 |nil=>simp[pot]
 |cons x S ih=>
  have:=aue x;simp only[pot,List.map_cons,List.sum_cons,List.length_cons] at ih ⊢;omega
theorem auf{S:List SyU}{i:Nat}{x:SyU}(y:SyU)(h:S[i]? =some x):pot (S.set i y)+wgt x=pot S+wgt y:=by
 induction S generalizing i with
 |nil=>simp at h
 |cons z S ih=>
  cases i with
  |zero=>simp at h;subst h;simp only[List.set_cons_zero,pot,List.map_cons,List.sum_cons];omega
  |succ i=>
   have:=ih (i:=i) (by simpa using h);simp only[List.set_cons_succ,pot,List.map_cons,List.sum_cons] at this ⊢;omega
theorem ae4:∀(ts:List T) (S:List SyU),pot (aag S ts).1<=pot S+T.sizes ts
 |[],S=>by simp[aag,T.sizes]
 |t::ts,S=>by
  have h:=ae4 ts (abU S t)
  have h1:pot (abU S t)<=pot S+t.size:=by
   unfold abU;split
   ·have:=T.size_pos t;omega
   ·rw[an4];have:wgt (t,[])<=t.size:=by unfold wgt;have:=T.size_pos t;show(if _ then t.size else 1)<=t.size;split<;>omega
    simp only[pot,List.map_cons,List.map_nil,List.sum_cons,List.sum_nil] at this ⊢;omega
  simp only[aag,T.sizes];omega
theorem aij(S:List SyU)(v:Int):pot (aac S v).1<=pot S:=by
 unfold aac;split
 ·exact af _
 ·split
  ·exact af _
  ·rename_i t as_ hs;split
   ·rename_i hlt;obtain⟨l,h,hl⟩:=aa8 t.args S;have h1:=ae4 t.args S;have h2:(aag S t.args).1[(v-256).toNat]? =some (t,as_):=by rw[h,List.getElem?_append_left (ah.1 hs).1];exact hs
    have h3:=auf (t,(aag S t.args).2) h2;have h4:wgt (t,as_)=t.size:=by unfold wgt;rw[if_pos hlt]
    have h5:wgt (t,(aag S t.args).2)=1:=by unfold wgt;rw[if_neg (by simp only;rw[abm];omega)]
    have:=T.size_eq t;simp only at h3 ⊢;omega
   ·exact af _
structure GOk (S:List SyU) (R:Int->Int):Prop where
 pot:pot S<=5000
 sz:∀x∈S,x.1.size<=1000
 head:∀x∈S,¬x.1.head<0
 good:∀x∈S,bad (T.subs 1 x.1)=false
 made:∀x∈S,x.2=[]\/x.2.length=x.1.args.length
 argv:∀x∈S,∀z∈x.2,0<=z/\z<256+S.length
 rv:∀v,R v≠v->(0<=v/\v<256+S.length)/\0<=R v/\R v<256+S.length
theorem GOk.len{S:List SyU}{R:Int->Int}(h:GOk S R):S.length<=5000:=aE (aex S) h.pot
theorem GOk.root{S:List SyU}{R:Int->Int}(h:GOk S R){v:Int}(h0:0<=v)(h1:v<256+S.length):0<=R v/\R v<256+S.length:=by
 by_cases e:R v=v
 ·rw[e];exact⟨h0,h1⟩
 ·exact(h.rv v e).2
theorem adM{S:List SyU}{t:T}(hg:bad (T.subs 1 t)=false):0<=ahn S t/\ahn S t<256+(abU S t).length/\S.length<=(abU S t).length:=by
 unfold ahn abU;split
 ·rename_i h;have:=aaI hg;simp only[okB,if_pos h,Bool.and_eq_true,decide_eq_true_iff] at this;exact⟨by omega,by omega,af _⟩
 ·simp only[aK,List.length_cons,List.length_nil];omega
theorem afv:∀(ts:List T) (S:List SyU),(∀t∈ts,bad (T.subs 1 t)=false)->S.length<=(aag S ts).1.length/\∀z∈(aag S ts).2,0<=z/\z<256+(aag S ts).1.length
 |[],S,_=>⟨af _,by simp[aag]⟩
 |t::ts,S,h=>by
  have h1:=adM (S:=S) (h t (by simp));have h2:=afv ts (abU S t) (fun s hs=>h s (by simp[hs]));simp only[aag];refine⟨by omega,fun z hz=> ?_⟩
  rcases List.mem_cons.1 hz with rfl|hz
  ·omega
  ·exact h2.2 z hz
theorem afw:∀(ts:List T) (S:List SyU),(∀x∈S,¬x.1.head<0)->∀x∈(aag S ts).1,¬x.1.head<0
 |[],S,h=>h
 |t::ts,S,h=>by
  refine afw ts (abU S t) (fun x hx=> ?_);unfold abU at hx;split at hx
  ·exact h x hx
  ·rcases aG.1 hx with hx|hx
   ·exact h x hx
   ·simp at hx;subst hx;assumption
theorem ajl{t s:T}(h:bad (T.subs 1 t)=false)(hs:s∈t.args):bad (T.subs 1 s)=false:=by
 obtain⟨i,hi⟩:=au hs;exact aaA h hi
theorem GOk.args{S:List SyU}{R:Int->Int}(h:GOk S R)(v:Int):GOk (aac S v).1 R/\S.length<=(aac S v).1.length/\∀z∈(aac S v).2,0<=z/\z<256+(aac S v).1.length:=by
 have hlen:=(aev S v h.sz).1
 have hargs:(∀x∈(aac S v).1,¬x.1.head<0)/\(∀x∈(aac S v).1,∀z∈x.2,0<=z/\z<256+(aac S v).1.length)/\∀z∈(aac S v).2,0<=z/\z<256+(aac S v).1.length:=by
  unfold aac;split
  ·exact⟨h.head,h.argv,by simp⟩
  ·split
   ·exact⟨h.head,h.argv,by simp⟩
   ·rename_i t as_ hs;have hm:=ak hs;split
    ·have hv:=afv t.args S (fun s hs'=>ajl (h.good _ hm) hs');refine⟨fun x hx=> ?_,fun x hx z hz=> ?_,fun z hz=> ?_⟩
     ·rcases List.mem_or_eq_of_mem_set hx with hx|hx
      ·exact afw _ _ h.head x hx
      ·subst hx;exact h.head (t,as_) hm
     ·rw[List.length_set]
      rcases List.mem_or_eq_of_mem_set hx with hx|hx
      ·rcases ae1 _ _ hx with hx|hx
       ·have:=h.argv x hx z hz;omega
       ·rw[hx.2] at hz;simp at hz
      ·subst hx;exact hv.2 z hz
     ·rw[List.length_set];exact hv.2 z hz
    ·exact⟨h.head,h.argv,fun z hz=>h.argv _ hm z hz⟩
 refine⟨⟨aE (aij S v) h.pot,agR h.sz,hargs.1,fun x hx=> ?_,agS h.made,hargs.2.1,fun u hu=> ?_⟩,hlen,hargs.2.2⟩
 ·rcases ae2 hx with hx|⟨y,hy,hx,_⟩|⟨y,hy,hx,_⟩
  ·exact h.good x hx
  ·exact ajl (h.good y hy) hx
  ·rw[hx];exact h.good y hy
 ·have:=h.rv u hu;omega
theorem afQ:∀(N:Nat) (l:List Int),l.Nodup->(∀z∈l,0<=z/\z<N)->l.length<=N:=by
 intro N
 induction N with
 |zero=>
  intro l _ h;cases l with
  |nil=>simp
  |cons z l=>have:=h z (by simp);omega
 |succ N ih=>
  intro l hd h;by_cases hm:(N:Int)∈l
  ·have h1:=List.length_erase_of_mem hm
   have h2:=ih (l.erase (N:Int)) (hd.erase _) (fun z hz=>by
    have hz1:=h z (List.mem_of_mem_erase hz);have hz2:z≠(N:Int):=fun e=>by subst e;exact(List.Nodup.not_mem_erase hd) hz
    omega)
   omega
  ·exact aE (ih l hd (fun z hz=>by
    have hz1:=h z hz;have:z≠(N:Int):=fun e=>hm (e▸hz);omega)) (Nat.le_succ _)
def aea(s u:Sb)(v:Int):T:=(ofS s v).sub (ofS u)
def aci(s u:Sb):List Int->Sb
 |[]=>[]
 |v::vs=>if(aea s u v).head= -1-v then aci s u vs else(v,aea s u v)::aci s u vs
theorem sub_congr{f g:Int->T}:∀(N:Nat) (t:T),t.size<=N->bad (T.subs 1 t)=false->(∀v,0<=v->v<=255->f v=g v)->t.sub f=t.sub g:=by
 intro N
 induction N with
 |zero=>intro t ht;have:=T.size_pos t;omega
 |succ N ih=>
  intro t ht hg hf;by_cases q:t.head<0
  ·rw[T.sub_neg q,T.sub_neg q];have:=aaI hg;simp only[okB,if_pos q,Bool.and_eq_true,decide_eq_true_iff] at this;exact hf _ (by omega) this.2
  ·rw[T.sub_pos q,T.sub_pos q]
   congr 1
   apply List.map_congr_left;intro s hs;obtain⟨i,hi⟩:=au hs;exact ih s (by have:=T.size_lt_of_mem hi;have:=T.size_eq t;omega) (aaA hg hi) hf
theorem ajm:∀{a b:List Int},a.Pairwise (· < ·)->b.Pairwise (· < ·)->(∀v,v∈a↔v∈b)->a=b:=by
 intro a
 induction a with
 |nil=>
  intro b _ _ h;cases b with
  |nil=>rfl
  |cons y b=>exact absurd ((h y).2 (by simp)) (by simp)
 |cons x a ih=>
  intro b ha hb h;cases b with
  |nil=>exact absurd ((h x).1 (by simp)) (by simp)
  |cons y b=>
   rw[List.pairwise_cons] at ha hb
   have hxy:x=y:=by
    rcases List.mem_cons.1 ((h x).1 (by simp)) with h1|h1
    ·exact h1
    ·rcases List.mem_cons.1 ((h y).2 (by simp)) with h2|h2
     ·exact h2.symm
     ·have:=hb.1 x h1;have:=ha.1 y h2;omega
   subst hxy
   congr 1
   refine ih ha.2 hb.2 fun v=> ?_;constructor
   ·intro hv
    rcases List.mem_cons.1 ((h v).1 (aH _ hv)) with h1|h1
    ·have:=ha.1 v hv;omega
    ·exact h1
   ·intro hv
    rcases List.mem_cons.1 ((h v).2 (aH _ hv)) with h1|h1
    ·have:=hb.1 v hv;omega
    ·exact h1
end Go.Proofs.YtabfapijgfjflaaGreat
namespace Go.Proofs
open Go.Shelf
end Go.Proofs
namespace Go.Proofs.YtabfapijgfjflaaGreat
open Go.RowKit Go.Sort
def sorted(zs:List Int):List Int:=zs.mergeSort fun x y=>decide (x<=y)
theorem abl(zs:List Int):(sorted zs).length=zs.length:=by simp[sorted]
theorem ajn{zs:List Int}{cur:Array Value}(h:zs.length<=cur.size):(putCells (Value.int .i64) 0 zs.toArray cur).toList.take zs.length=zs.map (Value.int .i64):=by
 apply List.ext_getElem?;intro j;rw[List.getElem?_take,List.getElem?_map];by_cases hj:j<zs.length
 ·rw[if_pos hj,ai hj];unfold putCells;rw[Array.getElem?_toList,Array.getElem?_mapIdx,Array.getElem?_eq_getElem (by omega)];simp[hj]
 ·rw[if_neg hj,List.getElem?_eq_none (by omega)];rfl
end Go.Proofs.YtabfapijgfjflaaGreat
namespace Go.Proofs.YtabfapijgfjflaaGreat
open Go.RowKit
end Go.Proofs.YtabfapijgfjflaaGreat
namespace Go.Proofs
open Go.Shelf
end Go.Proofs
namespace Go.Proofs.YtabfapijgfjflaaGreat
open Go.RowKit Go.Sort
end Go.Proofs.YtabfapijgfjflaaGreat
