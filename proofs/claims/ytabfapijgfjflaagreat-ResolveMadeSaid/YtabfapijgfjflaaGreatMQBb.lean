import Derived.Test.YtabfapijgfjflaaGreatMQBa
import Derived.Laws.OwnMore
import Derived.WalkSmall
import Derived.RangeFuncNested
import Derived.RangeFuncBound
import Derived.RangeFuncCalls
import Derived.RangeFuncLeaves
import Derived.Shelf.Abstract
import Derived.Shelf.RegionOpen
import Derived.OwnWalkIn
import Derived.TacticsInMore
import Derived.LoopNIn
import Derived.LoopIn
import Derived.Maps.AppendAt
import Derived.Deep.DeepMust
import Derived.Lib.OwnKind
import Derived.Maps.OwnIn
import Derived.Laws.AppendOwnNone
import Derived.Test.YtabfapijgfjflaaGreatMAl
set_option linter.unusedVariables false
set_option linter.unusedSimpArgs false
set_option maxRecDepth 100000
set_option maxHeartbeats 4000000
namespace Go.Proofs.YtabfapijgfjflaaGreat
open Go.RowKit
def Fr(aM B:Nat)(W:World)(ts:List T)(v:Value):Prop:=
 ∃a c,v= .slice a ts.length c/\ts.length<=c/\c<=maxLen/\(ts=[]\/∃b o,a=some ⟨b,o,none⟩/\(b<aM\/b=B)/\aar aM W ts b o)
def Frs(aM B:Nat)(W:World):List (List T)->List Value->Prop
 |[],[]=>True
 |f::fs,v::vs=>Fr aM B W f v/\Frs aM B W fs vs
 |_,_=>False
theorem Frs.length{aM B:Nat}{W:World}:∀{fs:List (List T)} {vs:List Value},Frs aM B W fs vs->fs.length=vs.length
 |[],[],_=>rfl
 |_::_,_::_,h=>by simp[Frs.length h.2]
 |[],_::_,h=>h.elim
 |_::_,[],h=>h.elim
theorem Fr.keep{aM B:Nat}{W W':World}(h:Below aM W W')(hB:W'.heap[B]? =W.heap[B]?){ts:List T}{v:Value}(hf:Fr aM B W ts v):Fr aM B W' ts v:=by
 obtain⟨a,c,h1,h2,h3,h4⟩:=hf;refine⟨a,c,h1,h2,h3,?_⟩
 rcases h4 with h4|⟨b,o,h4,h5,h6⟩
 ·exact .inl h4
 ·refine .inr ⟨b,o,h4,h5,?_⟩
  rcases h5 with h5|rfl
  ·exact h6.below h h5
  ·exact aar.keep (fun b o hb _=>h.cell (p:=⟨b,o,none⟩) hb) ts (fun o _=>aq (a:=⟨b,o,none⟩) hB) h6
theorem Frs.keep{aM B:Nat}{W W':World}(h:Below aM W W')(hB:W'.heap[B]? =W.heap[B]?):∀{fs:List (List T)} {vs:List Value},Frs aM B W fs vs->Frs aM B W' fs vs
 |[],[],_=>trivial
 |_::_,_::_,hf=>⟨hf.1.keep h hB,Frs.keep h hB hf.2⟩
 |[],_::_,hf=>hf.elim
 |_::_,[],hf=>hf.elim
def rest:List (List T)->List (Nat×T)
 |[]=>[]
 |f::fs=>T.subss (fs.length+1) f++rest fs
def left:List (List T)->Nat
 |[]=>0
 |f::fs=>2*T.sizes f+1+left fs
def ad0(B:Nat)(e':TypeId)(W:World):Prop:=∃cs fz,W.heap[B]? =some (Obj.cells cs e' fz)
theorem ad0.keep{B:Nat}{e':TypeId}{W W':World}(h:ad0 B e' W)(hB:W'.heap[B]? =W.heap[B]?):ad0 B e' W':=by
 obtain⟨cs,fz,h⟩:=h;exact⟨cs,fz,hB.trans h⟩
def At(aM B:Nat)(t:T)(J:List (Nat×T)->World->Prop)(e e':TypeId)(gk:Nat)(v:Value)(W:World)(fs:List (List T))(vs:List Value)(pre:List (Nat×T)):Prop:=
 W.ownsRow (B+1) e 1 v fs.length vs.reverse/\Frs aM B W fs vs/\J pre W/\pre++rest fs=T.subs 1 t/\fs.length<=pre.length+1/\gk=left fs/\B+1<W.heap.size/\ad0 B e' W
theorem At.length_le{aM B:Nat}{t:T}{J:List (Nat×T)->World->Prop}{e e':TypeId}{gk:Nat}{v:Value}{W:World}{fs:List (List T)}{vs:List Value}{pre:List (Nat×T)}
 (h:At aM B t J e e' gk v W fs vs pre):fs.length<=t.size+1:=by
 have h1:=congrArg List.length h.2.2.2.1;rw[T.subs_length,aK] at h1;have:=h.2.2.2.2.1;omega
theorem Fr.tail{aM B:Nat}{W:World}{ts:List T}{b o c:Nat}(hc:ts.length<=c)(hm:c<=maxLen)(hb:b<aM\/b=B)(hr:aar aM W ts b o){j:Nat}(hj:j<ts.length):
 Fr aM B W (ts.drop (j+1)) (.slice (some ⟨b,if c=j+1 then o else o+(j+1)*2,none⟩) (ts.length-(j+1)) (c-(j+1))):=by
 refine⟨_,_,by rw[List.length_drop],by rw[List.length_drop];omega,by omega,?_⟩;by_cases h:c=j+1
 ·left;rw[List.drop_eq_nil_iff];omega
 ·right
  refine⟨b,_,rfl,hb,?_⟩;rw[if_neg h];exact hr.drop (j+1) (by omega)
theorem Fr.of_args{aM B:Nat}{W:World}{ts:List T}{a:Option Addr}{c:Nat}(h:aab aM W ts a c):Fr aM B W ts (.slice a ts.length c):=by
 obtain⟨h1,h2,h3⟩:=h;refine⟨a,c,rfl,h1,h2,?_⟩
 rcases h3 with h3|⟨b,o,h3,h4,h5⟩
 ·exact .inl h3
 ·exact .inr ⟨b,o,h3,.inl h4,h5⟩
theorem arh(v v':Value)(vs:List Value):(v::vs).reverse.set vs.length v'=(v'::vs).reverse:=by
 simp[List.set_append]
theorem aiP(v:Value)(vs:List Value):(v::vs).reverse[vs.length]? =some v:=by
 simp
def AtE(aM B:Nat)(t:T)(J:List (Nat×T)->World->Prop)(e e':TypeId)(gk:Nat)(v:Value)(W:World):Prop:=∃fs vs pre,At aM B t J e e' gk v W fs vs pre
def AtX(aM B:Nat)(t:T)(J:List (Nat×T)->World->Prop)(e e':TypeId)(v:Value)(W:World):Prop:=∃gk,AtE aM B t J e e' gk v W
noncomputable def atM(aM B:Nat)(t:T)(J:List (Nat×T)->World->Prop)(e e':TypeId)(v:Value)(W:World):Nat:=leastOf (fun gk=>AtE aM B t J e e' gk v W)
theorem AtX.open{aM B:Nat}{t:T}{J:List (Nat×T)->World->Prop}{e e':TypeId}{v:Value}{W:World}(h:AtX aM B t J e e' v W):∃fs vs pre,At aM B t J e e' (left fs) v W fs vs pre/\atM aM B t J e e' v W=left fs:=by
 obtain⟨fs,vs,pre,hat⟩:=(leastOf_spec h).1;have hg:=hat.2.2.2.2.2.1;refine⟨fs,vs,pre,?_,hg⟩;rw[←hg];exact hat
theorem AtX.lt{aM B:Nat}{t:T}{J:List (Nat×T)->World->Prop}{e e':TypeId}{v v':Value}{W W':World}{k:Nat}(h:AtE aM B t J e e' k v' W')(hk:k<atM aM B t J e e' v W):atM aM B t J e e' v' W'<atM aM B t J e e' v W:=anx h hk
theorem At.start{aM:Nat}{t:T}{J:List (Nat×T)->World->Prop}{e e':TypeId}{a:Option Addr}{c:Nat}{W:World}(hn:aM<=W.heap.size)(hJ:acx W.heap.size e J)(hwf:(Lit.int .i64 t.head).wf=true)(hA:aab aM W t.args a c)(h0:J [] W):
 AtE aM W.heap.size t J e e' (2*t.size+1) (.slice (some ⟨W.heap.size+1,0,none⟩) 1 1) ((W.alloc (.cells #[.int .i64 t.head,.slice a t.args.length c] e')).alloc (.cells #[.slice (some ⟨W.heap.size,0,none⟩) 1 1] e)):=by
 have hB1:Below W.heap.size W (W.alloc (.cells #[.int .i64 t.head,.slice a t.args.length c] e')):=(ag _ _).alloc (af _) _;have hB2:Below W.heap.size W ((W.alloc (.cells #[.int .i64 t.head,.slice a t.args.length c] e')).alloc (.cells #[.slice (some ⟨W.heap.size,0,none⟩) 1 1] e)):=hB1.alloc (by simp) _;refine⟨[[t]],[.slice (some ⟨W.heap.size,0,none⟩) 1 1],[],?_,⟨⟨_,_,rfl,af _,by simp[maxLen],.inr ⟨W.heap.size,0,rfl,.inr rfl,?_⟩⟩,trivial⟩,hJ _ _ _ h0 ((Chg.alloc _ e W (af _) _).trans (Chg.alloc _ e _ (by simp) _)),?_,by simp,?_,by simp,⟨_,_,(az _ _ _ (by simp)).trans (World.alloc_heap_new W _)⟩⟩
 ·have:=World.ownsRow_lit (base:=W.heap.size+1) (e:=e) (size:=1) (W.alloc (.cells #[.int .i64 t.head,.slice a t.args.length c] e')) #[.slice (some ⟨W.heap.size,0,none⟩) 1 1] 1 (by simp) (by simp[maxLen]) (by simp);simpa using this
 ·refine⟨aaO.2 ⟨hwf,?_,a,c,?_,hA.below (hB2.mono hn)⟩,trivial⟩
  ·simp[go_sem]
  ·simp[go_sem]
 ·simp[rest,T.subss]
 ·simp[left,T.sizes]
def InX(aM B:Nat)(t:T)(J:List (Nat×T)->World->Prop)(e e':TypeId)(f:List T)(fs:List (List T))(vs:List Value)(a:Option Addr)(c:Nat)(stv:Value)(st i:Value)(W:World):Prop:=
 ∃(j:Nat) (pre:List (Nat×T)),j<=f.length/\i= .int .i64 j/\st=stv/\W.ownsRow (B+1) e 1 stv (fs.length+1) (.slice a f.length c::vs).reverse/\Frs aM B W (f::fs) (.slice a f.length c::vs)/\J pre W/\
  pre++(T.subss (fs.length+1) (f.drop j)++rest fs)=T.subs 1 t/\fs.length<=pre.length/\B+1<W.heap.size/\ad0 B e' W
theorem Frs.head_elem{aM B:Nat}{W:World}{f:List T}{fs:List (List T)}{vs:List Value}{a:Option Addr}{c:Nat}(h:Frs aM B W (f::fs) (.slice a f.length c::vs)){j:Nat}(hj:j<f.length):
 ∃(b o:Nat) (s:T) (a':Option Addr) (c':Nat),a=some ⟨b,o,none⟩/\(b<aM\/b=B)/\f[j]? =some s/\(Lit.int .i64 s.head).wf=true/\W.cell? ⟨b,o+j*2,none⟩=some (.int .i64 s.head)/\
  W.cell? ⟨b,o+j*2+1,none⟩=some (.slice a' s.args.length c')/\aab aM W s.args a' c'/\aar aM W f b o:=by
 obtain⟨⟨aO,c₁,h1,h2,h3,h4⟩,_⟩:=h;cases h1
 rcases h4 with rfl|⟨b,o,rfl,h4,h5⟩
 ·simp at hj
 ·obtain⟨p0,p1,a',c',p2,p3⟩:=aaO.1 (h5.at (ai hj));exact⟨b,o,_,a',c',rfl,h4,ai hj,p0,p1,p2,p3,h5⟩
theorem abA{w w':World}{base:Nat}{e:TypeId}{size g n cap:Nat}{xs:List Value}(h:w.ownsRow base e size (.slice (some ⟨g,0,none⟩) n cap) n xs)(hg:w'.heap[g]? =w.heap[g]?):w'.ownsRow base e size (.slice (some ⟨g,0,none⟩) n cap) n xs:=by
 refine⟨h.1,?_⟩
 rcases h.2 with⟨h',_⟩|⟨g',cap',cur,h',hb,hgg,r⟩
 ·cases h'
 ·cases h';exact .inr ⟨g,cap,cur,rfl,hb,hg.trans hgg,r⟩
theorem ad1{w:World}{base:Nat}{e:TypeId}{size g n cap:Nat}{xs:List Value}(h:w.ownsRow base e size (.slice (some ⟨g,0,none⟩) n cap) n xs):n<=cap/\cap<=maxLen:=by
 rcases h.2 with⟨h',_⟩|⟨g',cap',cur,h',hb,hgg,h1,h2,_⟩
 ·cases h'
 ·cases h';exact⟨h1,h2⟩
theorem ajZ{f:List T}{j:Nat}{s:T}(hs:f[j]? =some s)(fs:List (List T)):left (s.args::f.drop (j+1)::fs)<left (f::fs):=by
 have h1:=T.sizes_append (f.take j) (f.drop j);rw[List.take_append_drop,T.sizes_drop hs,T.size_eq] at h1;simp only[left];omega
theorem At.push{aM B:Nat}{t:T}{J:List (Nat×T)->World->Prop}{e e':TypeId}{f:List T}{fs:List (List T)}{vs:List Value}{v newv v':Value}{aO:Option Addr}{c₁ g cap j:Nat}{s:T}{pre:List (Nat×T)}{W3 w1:World}{tmp:Obj}
 (hJ:acx B e J) (hn:aM<=B) (hO:W3.ownsRow (B+1) e 1 (.slice (some ⟨g,0,none⟩) (fs.length+1) cap) (fs.length+1) (v::vs).reverse) (hF:Frs aM B W3 (f::fs) (v::vs)) (hA:aab aM W3 s.args aO c₁) (hs:f[j]? =some s)
 (hP:pre++(T.subss (fs.length+1) (f.drop j)++rest fs)=T.subs 1 t) (hj:J (pre++[(fs.length+1,s)]) W3) (hnew:Fr aM B W3 (f.drop (j+1)) newv) (hl:fs.length<=pre.length) (hsz:B+1<W3.heap.size) (hfirst:ad0 B e' W3)
 (hown:w1.ownsRow (B+1) e 1 v' (fs.length+1+1) ((v::vs).reverse.set fs.length newv++[.slice aO s.args.length c₁])) (hgrow:((W3.setCell ⟨g,fs.length,none⟩ newv).alloc tmp).grownBy w1 (some g)):
 AtE aM B t J e e' (left (s.args::f.drop (j+1)::fs)) v' w1:=by
 have hvl:fs.length=vs.length:=hF.2.length;have hg:=(hO.lt g rfl).1
 have hB:Below (B+1) W3 w1:=by
  refine((((ag (B+1) W3).setCell (p:=⟨g,fs.length,none⟩) hg newv).alloc ?_ tmp)).grown hgrow ?_ ?_
  ·simp;omega
  ·simp;omega
  ·intro k e;cases e;exact hg
 have hBB:=hB.block B (by omega)
 have hC:Chg B e W3 w1:=by
  refine⟨hB.mono (by omega),fun b cs e₁ fz hb he=> ?_⟩;have hlt:=(aj.1 hb).1
  have hbg:b≠g:=by
   intro h;subst h
   rcases hO.2 with⟨h',_⟩|⟨g',cap',cur,h',_,hgg,_⟩
   ·cases h'
   ·cases h';rw[hb] at hgg;cases hgg;exact he rfl
  refine(hgrow.block b (by simp;omega) (by simpa using hbg)).trans ((az _ _ _ (by simpa using hlt)).trans (an _ _ _ _ hbg))
 refine⟨s.args::f.drop (j+1)::fs,.slice aO s.args.length c₁::newv::vs,pre++[(fs.length+1,s)],?_,⟨Fr.of_args (hA.below (hB.mono (by omega))),hnew.keep (hB.mono (by omega)) hBB,hF.2.keep (hB.mono (by omega)) hBB⟩,hJ _ _ _ hj hC,?_,by simp;omega,rfl,by have:=hB.size;omega,hfirst.keep hBB⟩
 ·rw[hvl,arh] at hown;rw[show(Value.slice aO s.args.length c₁::newv::vs).reverse=(newv::vs).reverse++[.slice aO s.args.length c₁] from by simp];rw[show(s.args::f.drop (j+1)::fs).length=vs.length+1+1 from by simp[hvl]];exact hown
 ·rw[←hP,T.subss_drop _ hs,T.subs_eq];simp[rest]
theorem At.pop{aM B:Nat}{t:T}{J:List (Nat×T)->World->Prop}{e e':TypeId}{f:List T}{fs:List (List T)}{vs:List Value}{v:Value}{g cap:Nat}{pre:List (Nat×T)}{W3:World}
 (hO:W3.ownsRow (B+1) e 1 (.slice (some ⟨g,0,none⟩) (fs.length+1) cap) (fs.length+1) (v::vs).reverse) (hF:Frs aM B W3 (f::fs) (v::vs))
 (hP:pre++(T.subss (fs.length+1) (f.drop f.length)++rest fs)=T.subs 1 t) (hj:J pre W3) (hl:fs.length<=pre.length) (hsz:B+1<W3.heap.size) (hfirst:ad0 B e' W3):
 AtE aM B t J e e' (left fs) (.slice (some ⟨g,0,none⟩) fs.length cap) W3:=by
 have hvl:fs.length=vs.length:=hF.2.length;refine⟨fs,vs,pre,?_,hF.2,hj,by simpa[T.subss] using hP,by omega,rfl,hsz,hfirst⟩;rw[List.reverse_cons] at hO;exact ownsRow_pop (by simp[hvl]) hO
def aoE(t:T)(J Jx:List (Nat×T)->World->Prop)(e:Ending)(W':World):Prop:=
 (∃v,e= .returned v)/\((∃xs,xs=T.subs 1 t/\J xs W')\/(∃pre,pre<+:T.subs 1 t/\Jx pre W'))
open Go.Shelf
attribute [local go_sem] Oper.semAt_some
def adl(aM:Nat)(t:T)(pre:List (Nat×T))(x:Nat×T)(vs:Array Value)(W:World):Prop:=
 pre++[x]<+:T.subs 1 t/\(Lit.int .i64 x.2.head).wf=true/\∃a c,vs=#[.int .i64 x.1,tm x.2.head a x.2.args.length c]/\aab aM W x.2.args a c
def asR(e:TypeId):Bool:=e==58||e==60
theorem au8:(Tryz.prog.info? 58).map (fun i=>(i.zero,i.size,i.bytes))=some (some (.slice none 0 0),1,24):=by kernel_rfl
theorem abJ(w:World)(v:Value)(t:TypeId)(k:Nat)(hk:k=w.heap.size):∀(j:Nat) (u:Value),[v][j]? =some u->(w.alloc (.cells #[v] t)).cell? ((⟨k,0,none⟩:Addr).add j)=some u:=by
 subst hk;exact cell_one_new w v t
theorem aj0(F:Fence)(n:Nat)(hF:F.fn 178)(hro:F.round=none)(hn:1<=n)(t:T)(ht:t.size<=1000000000000)(l Bt aM:Nat)(a:Option Addr)(c:Nat)(J Jx:List (Nat×T)->World->Prop)(W:World)
 (hJ:acx W.heap.size 58 J) (hn₀:aM<=W.heap.size) (hwf:(Lit.int .i64 t.head).wf=true) (hc0:W.cell? ⟨Bt,0,none⟩=some (.int .i64 t.head)) (hc1:W.cell? ⟨Bt,1,none⟩=some (.slice a t.args.length c)) (hA:aab aM W t.args a c)
 (hY:∀pre x vs W1,J pre W1->W.heap.size<=W1.heap.size->adl aM t pre x vs W1->YieldAt F (n-1) Tryz.prog l vs W1 fun e W'=>
  (e= .returned (.bool true)/\J (pre++[x]) W'/\ab4 aM W.heap.size asR W1 W')\/(e= .returned (.bool false)/\Jx (pre++[x]) W'))
 (h0:J [] W):
 CallsIn F n Tryz.prog 178 #[.func (.yield l) #[] #[],.pointer (some ⟨Bt,0,none⟩)] W (aoE t J Jx):=by
 have HY:=ae hY;have HJ:=ae hJ;have HA:=ae hA;clear hY hJ hA;refine callsIn_of_wp Tryz.func178 rfl hF ?_ hro;simp only[Tryz.ntmps178,List.size_toArray,List.length_cons,List.length_nil,Nat.reduceAdd,Nat.reduceSub,Array.replicate_succ,Array.replicate_zero,List.push_toArray,List.append_toArray,List.nil_append,List.cons_append];refine anz ?_
 gi_wp2
 refine wpIn_label ?_
 gi_wp2
 gi_loopw [3] (fun v wr=>AtX aM W.heap.size t J 58 60 v wr) (fun v wr=>atM aM W.heap.size t J 58 60 v wr)
 case atStart=>exact⟨_,At.start hn₀ HJ.out hwf HA.out h0⟩
 case round=>
  obtain⟨fs,vs,pre,hat,hK⟩:=hrel.open;have HK:=ae hK;clear hrel hK;have hfl:=hat.length_le;obtain⟨hown,hfrs,hjp,hpre,hlen,_,hsz,hfst⟩:=hat;have HFST:=ae hfst;clear hfst;have HJP:=ae hjp;have HF:=ae hfrs;have HP:=ae hpre;clear hjp hfrs hpre;cases fs with
  |nil=>
   have hu:∃a' c',u3= .slice a' 0 c':=by
    rcases hown.2 with⟨h,_⟩|⟨g,cap,cur,h,_⟩
    ·exact⟨_,_,h⟩
    ·exact⟨_,_,h⟩
   obtain⟨a',c',rfl⟩:=hu;clear hown hlen hfl
   gi_wp2
   go_end0
   exact⟨⟨_,rfl⟩,.inl ⟨pre,by simpa[rest] using HP.out,HJP.out⟩⟩
  |cons f fs=>
   cases vs with
   |nil=>exact HF.out.elim
   |cons v vs=>
    obtain⟨⟨a',c',rfl,hfc,hcm,hrow⟩,hF2⟩:=HF.out;obtain⟨g,cap,rfl⟩:=ownsRow_succ hown;have hvl:fs.length=vs.length:=hF2.length
    have hcell:wr.cell? ⟨g,fs.length,none⟩=some (.slice a' f.length c'):=by
     rw[hown.cellAt fs.length (by simp),hvl,aiP]
    have HO:=ae hown;have HVL:=ae hvl;have HF2:=ae hF2;have HR:=ae hrow;clear hown hvl hF2 hrow;simp only[List.length_cons] at hfl hlen;unfold maxLen at hcm
    gi_wp2
    gi_loopw [3,23] (fun st i wq=>InX aM W.heap.size t J 58 60 f fs vs a' c' (.slice (some ⟨g,0,none⟩) (fs.length+1) cap) st i wq) (fun _ i _=>f.length-(intOf i).toNat)
    case atStart=>exact⟨0,pre,Nat.zero_le _,rfl,rfl,HO.out,HF.out,HJP.out,by simpa[rest] using HP.out,by omega,hsz,HFST.out⟩
    case round=>
     clear HJP HP HF HO HF2 HR hcell hlen HFST;obtain⟨j,pre,hj,rfl,rfl,hown,hfrs,hjp,hpre,hlen,hsz2,hfst⟩:=hrel;have HFST:=ae hfst;clear hfst
     have hcell:wr.cell? ⟨g,fs.length,none⟩=some (.slice a' f.length c'):=by
      rw[hown.cellAt fs.length (by simp),HVL.out,aiP]
     have HO:=ae hown;have HF:=ae hfrs;have HJP:=ae hjp;have HP:=ae hpre;clear hown hfrs hjp hpre;by_cases hlt:j<f.length
     ·obtain⟨b,o,s,aO,c₁,rfl,hb,hs,hswf,hd1,hd2,hsA,hrow⟩:=HF.out.head_elem hlt
      have hmay:adl aM t pre (fs.length+1,s) #[.int .i64 ((fs.length:Int)+1),tm s.head aO s.args.length c₁] (wr.alloc (aaa s.head aO s.args.length c₁)):=by
       refine⟨?_,hswf,aO,c₁,by simp,hsA.below ((ag _ _).alloc (by omega) _)⟩;have h1:=HP.out;rw[T.subss_drop _ hs,T.subs_eq] at h1;exact⟨T.subss (fs.length+1+1) s.args++T.subss (fs.length+1) (f.drop (j+1))++rest fs,by rw[←h1];simp⟩
      obtain⟨fn,tmps,assign,body,hy,hR⟩:=HY.out pre _ _ _ (HJ.out _ _ _ HJP.out (Chg.alloc _ _ wr (by omega) (aaa s.head aO s.args.length c₁))) (by simp;omega) hmay;have HS:=ae hs;have HSA:=ae hsA;have HRW:=ae hrow;clear hs hsA hrow hmay hswf
      gi_wp2
      refine hR.mono ?_;clear hR hy;rintro e W3 (⟨rfl,hJ3,hk3⟩|⟨rfl,hJx3⟩)
      ·have hbx:W3.cell? ⟨wr.heap.size,1,none⟩=some (.slice aO s.args.length c₁):=
        (aq (a:=⟨wr.heap.size,1,none⟩) (hk3.at (b:=wr.heap.size) (by omega) (World.alloc_heap_new wr (aaa s.head aO s.args.length c₁)) rfl)).trans (by simp[go_sem])
       have hgl:=HO.out.lt g rfl;obtain⟨cg,fg,hkind⟩:=Lib.ownsRow_kind HO.out g rfl;have hg0:(wr.alloc (aaa s.head aO s.args.length c₁)).heap[g]? =wr.heap[g]? :=az _ _ _ hgl.2;have hg3:W3.heap[g]? =wr.heap[g]? :=(hk3.at (by omega) (hg0.trans hkind) rfl).trans hg0;obtain⟨cf,ff,hfk⟩:=HFST.out;have hb0:(wr.alloc (aaa s.head aO s.args.length c₁)).heap[W.heap.size]? =wr.heap[W.heap.size]? :=az _ _ _ (by omega);have hB3:W3.heap[W.heap.size]? =wr.heap[W.heap.size]? :=(hk3.at (af _) (hb0.trans hfk) rfl).trans hb0;have hfst3:=HFST.out.keep hB3;clear hkind hg0 hfk hb0 HFST;have HFST:=ae hfst3;clear hfst3;have hlow:Below aM wr W3:=((ag _ _).alloc (by omega) _).trans hk3.1;have hs3:wr.heap.size+1<=W3.heap.size:=by have:=hk3.1.size;simpa using this
       have hown3:=abA HO.out hg3;have hfrs3:=HF.out.keep hlow hB3;have hsA3:=HSA.out.below hlow
       have hrow3:aar aM W3 f b o:=aar.keep (fun b o hb _=>hlow.cell (p:=⟨b,o,none⟩) hb) f (fun o _=>by
        rcases hb with hb|rfl
        ·exact hlow.cell (p:=⟨b,o,none⟩) hb
        ·exact aq (a:=⟨W.heap.size,o,none⟩) hB3) HRW.out
       clear HRW;have HRW:=ae hrow3;clear hrow3;have hfz:W3.frozen? ⟨g,fs.length,none⟩=false:=hown3.frozenAt fs.length
       have hcell3:W3.cell? ⟨g,fs.length,none⟩=some (.slice (some ⟨b,o,none⟩) f.length c'):=by
        rw[hown3.cellAt fs.length (by simp),HVL.out,aiP]
       have HJ3:=ae hJ3;have HO3:=ae hown3;have HF3:=ae hfrs3;have HSA3:=ae hsA3;have HGL:=ae hgl;clear hJ3 hown3 hfrs3 hsA3 hgl hg3 hB3 hk3 HO HF HSA HJP hcell hd1 hd2 hlow;by_cases hz:s.args.length=0
       ·rw[hz] at hbx ⊢
        gi_wp2
        go_roundw
        case rel=>
         refine⟨j+1,pre++[(fs.length+1,s)],by omega,by go_num,rfl,HO3.out,HF3.out,HJ3.out,?_,by simp;omega,by omega,HFST.out⟩;have h1:=HP.out;rw[T.subss_drop _ HS.out,T.subs_eq,aC hz] at h1;simpa[T.subss] using h1
        case measure=>simp[intOf];omega
       ·have hz':0<s.args.length:=by omega
        obtain⟨hg1,hg2⟩:=HGL.out
        have hbx':∀u,(W3.setCell ⟨g,fs.length,none⟩ u).cell? ⟨wr.heap.size,1,none⟩=some (.slice aO s.args.length c₁):=fun u=>
         (aq (a:=⟨wr.heap.size,1,none⟩) (an W3 ⟨g,fs.length,none⟩ u wr.heap.size (by simp;omega))).trans hbx
        obtain⟨i0,hi,hz0,hz1,hz2⟩:=info_parts au8;by_cases hcj:c'=j+1
        ·subst hcj
         gi_wp2_with (gi_at_builtin;go_must (refine wpListIn_append_own _ rfl _ _ 176 rfl (W.heap.size+1) 58 i0 (.slice none 0 0) 1 24 Tryz.underlying176 hi hz0 hz1 hz2 rfl (by decide) _ _ _ rfl ((HO3.out.stored fs.length _).1.alloc _) ⟨W3.heap.size,0,none⟩ 1 1 [.slice aO s.args.length c₁] rfl rfl (abJ _ _ _ _ (by simp)) (by simp[Value.oneCell']) (by unfold maxLen;omega) (by omega) (by simp;omega) ?_);intro v' w1 hown' hgrow _)
         have hf:Fr aM W.heap.size W3 (f.drop (j+1)) (.slice (some ⟨b,o,none⟩) 0 0):=by
          have hnil:f.drop (j+1)=[]:=by rw[List.drop_eq_nil_iff];omega
          rw[hnil];exact⟨_,0,rfl,af _,by simp[maxLen],.inl rfl⟩
         have hat:=At.push HJ.out hn₀ HO3.out HF3.out HSA3.out HS.out HP.out HJ3.out hf hlen (by omega) HFST.out hown' hgrow;exact⟨⟨_,hat⟩,AtX.lt hat (by rw[HK.out];exact ajZ HS.out fs)⟩
        ·gi_wp2_with (gi_at_builtin;go_must (refine wpListIn_append_own _ rfl _ _ 176 rfl (W.heap.size+1) 58 i0 (.slice none 0 0) 1 24 Tryz.underlying176 hi hz0 hz1 hz2 rfl (by decide) _ _ _ rfl ((HO3.out.stored fs.length _).1.alloc _) ⟨W3.heap.size,0,none⟩ 1 1 [.slice aO s.args.length c₁] rfl rfl (abJ _ _ _ _ (by simp)) (by simp[Value.oneCell']) (by unfold maxLen;omega) (by omega) (by simp;omega) ?_);intro v' w1 hown' hgrow _)
         have hf:Fr aM W.heap.size W3 (f.drop (j+1)) (.slice (some ⟨b,o+(j+1)*2,none⟩) (f.length-(j+1)) (c'-(j+1))):=by
          have h:=Fr.tail (aM:=aM) (B:=W.heap.size) (W:=W3) hfc hcm hb HRW.out hlt;rw[if_neg hcj] at h;exact h
         have hat:=At.push HJ.out hn₀ HO3.out HF3.out HSA3.out HS.out HP.out HJ3.out hf hlen (by omega) HFST.out hown' hgrow;exact⟨⟨_,hat⟩,AtX.lt hat (by rw[HK.out];exact ajZ HS.out fs)⟩
      ·gi_wp2
       show bodyPost Tryz.prog Tryz.f178 (aoE t J Jx) .normal _ _
       go_end0
       refine⟨⟨_,rfl⟩,.inr ⟨pre++[(fs.length+1,s)],?_,hJx3⟩⟩;have h1:=HP.out;rw[T.subss_drop _ HS.out,T.subs_eq] at h1;exact⟨T.subss (fs.length+1+1) s.args++T.subss (fs.length+1) (f.drop (j+1))++rest fs,by rw[←h1];simp⟩
     ·obtain rfl:j=f.length:=by omega
      have hcap:=ad1 HO.out;unfold maxLen at hcap;obtain⟨hcap1,hcap2⟩:=hcap
      gi_wp2
      have hat:=At.pop HO.out HF.out HP.out HJP.out hlen hsz2 HFST.out;exact⟨⟨_,hat⟩,AtX.lt hat (by rw[HK.out];simp only[left];omega)⟩
theorem aiQ(F:Fence)(n:Nat)(hF:F.fn 178)(hro:F.round=none)(hn:1<=n)(t:T)(ht:t.size<=1000000000000)(Bt aM:Nat)(a:Option Addr)(c:Nat)(w:World)
 (hn₀:aM<=w.heap.size) (hBt:Bt<w.heap.size) (hwf:(Lit.int .i64 t.head).wf=true) (hc0:w.cell? ⟨Bt,0,none⟩=some (.int .i64 t.head)) (hc1:w.cell? ⟨Bt,1,none⟩=some (.slice a t.args.length c)) (hA:aab aM w t.args a c):
 awJ F n Tryz.prog 178 #[.pointer (some ⟨Bt,0,none⟩)] aM 58 asR (adl aM t) (fun xs=>xs=T.subs 1 t) (fun pre=>pre<+:T.subs 1 t) w:=fun l J Jx W hW hJ _ hY h0=>
 aj0 F n hF hro hn t ht l Bt aM a c J Jx W hJ (aE hn₀ hW.size) hwf ((hW.cell (p:=⟨Bt,0,none⟩) hBt).trans hc0) ((hW.cell (p:=⟨Bt,1,none⟩) hBt).trans hc1) (hA.below (hW.mono hn₀)) hY h0
theorem afn(F:Fence)(n:Nat)(hF:F.fn 178)(hro:F.round=none)(hn:1<=n)(t:T)(ht:t.size<=1000000000000)(Bt aM:Nat)(a:Option Addr)(c:Nat)(w:World)
 (hn₀:aM<=w.heap.size) (hBt:Bt<w.heap.size) (hwf:(Lit.int .i64 t.head).wf=true) (hc0:w.cell? ⟨Bt,0,none⟩=some (.int .i64 t.head)) (hc1:w.cell? ⟨Bt,1,none⟩=some (.slice a t.args.length c)) (hA:aab aM w t.args a c):
 awI F n Tryz.prog 178 #[.pointer (some ⟨Bt,0,none⟩)] aM (adl aM t) (fun xs=>xs=T.subs 1 t) (fun pre=>pre<+:T.subs 1 t) w:=
 (aiQ F n hF hro hn t ht Bt aM a c w hn₀ hBt hwf hc0 hc1 hA).toB
theorem adl.size{aM:Nat}{t:T}{pre:List (Nat×T)}{x:Nat×T}{vs:Array Value}{W:World}(h:adl aM t pre x vs W):vs.size=2:=by
 obtain⟨_,_,a,c,rfl,_⟩:=h;rfl
theorem adl.below{aM:Nat}{t:T}{pre:List (Nat×T)}{x:Nat×T}{vs:Array Value}{W W':World}(h:adl aM t pre x vs W)(hb:Below aM W W'):adl aM t pre x vs W':=by
 obtain⟨h1,h2,a,c,h3,h4⟩:=h;exact⟨h1,h2,a,c,h3,h4.below hb⟩
theorem adl.length{aM:Nat}{t:T}{pre:List (Nat×T)}{x:Nat×T}{vs:Array Value}{W:World}(h:adl aM t pre x vs W):pre.length<t.size:=by
 obtain⟨h1,_⟩:=h;have:=h1.length_le;rw[T.subs_length] at this;simp at this;omega
end Go.Proofs.YtabfapijgfjflaaGreat
namespace Go.Proofs.YtabfapijgfjflaaGreat
open Go.RowKit Go.Shelf
attribute [local go_sem] Oper.semAt_some
theorem au9(t:Array Value)(p q:Tmp)(u v:Value):(#[p,q].zip #[u,v]).foldl (fun t (x:Tmp×Value)=>t.setIfInBounds x.1 x.2) t=(t.setIfInBounds p u).setIfInBounds q v:=by simp
mutual
def T.depth:T->Nat
 | .node _ ts=>T.depths ts+1
def T.depths:List T->Nat
 |[]=>0
 |t::ts=>max t.depth (T.depths ts)
end
theorem T.depth_pos(t:T):1<=t.depth:=by cases t;simp[T.depth]
def mx(m:Nat)(pre:List (Nat×T)):Nat:=pre.foldl (fun m x=>max m x.1) m
mutual
theorem aoF(m l:Nat)(hl:1<=l)(hm:l<=m+1):(t:T)->mx m (T.subs l t)=max m (l+t.depth-1)
 | .node h ts=>by
   have h1:=ams (max m l) (l+1) (by omega) (by omega) ts;simp only[mx,T.subs,List.foldl_cons,T.depth] at h1 ⊢;rw[h1];omega
theorem ams(m l:Nat)(hl:1<=l)(hm:l<=m+1):(ts:List T)->mx m (T.subss l ts)=max m (l+T.depths ts-1)
 |[]=>by simp[mx,T.subss,T.depths];omega
 |t::ts=>by
  have h1:=aoF m l hl hm t;have h2:=ams (max m (l+t.depth-1)) l hl (by omega) ts;simp only[mx,T.subss,List.foldl_append,T.depths] at h1 h2 ⊢;rw[h1,h2];omega
end
theorem ava(t:T):mx 0 (T.subs 1 t)=t.depth:=by rw[aoF 0 1 (by omega) (by omega)];have:=t.depth_pos;omega
theorem aoG(m:Nat)(pre:List (Nat×T))(x:Nat×T):mx m (pre++[x])=max (mx m pre) x.1:=by simp[mx]
end Go.Proofs.YtabfapijgfjflaaGreat
namespace Go.Proofs.YtabfapijgfjflaaGreat
open Go.RowKit Go.Shelf
attribute [local go_sem] Oper.semAt_some
def bad(pre:List (Nat×T)):Bool:=pre.any (fun x=> !okB x.2.head x.2.args.length)
theorem amt(pre:List (Nat×T))(x:Nat×T):bad (pre++[x])=(bad pre|| !okB x.2.head x.2.args.length):=by simp[bad]
def T.check(t:T):Int:=if 400<t.size then 2 else if 40<t.depth then 7 else if bad (T.subs 1 t) then 1 else 0
theorem ahI{h:Int}(hw:(Lit.int .i64 h).wf=true): -9223372036854775808<=h/\h<=9223372036854775807:=by
 simp[Lit.wf,IntKind.min,IntKind.max,IntKind.signed,IntKind.bits] at hw;omega
theorem aak{W:World}{B B':Nat}{t:TypeId}{v:Value}(h:Boxed W B t v)(hne:B≠B')(o:Nat)(u:Value):Boxed (W.setCell ⟨B',o,none⟩ u) B t v:=(an W ⟨B',o,none⟩ u B hne).trans h
theorem aa3{W W':World}{B n:Nat}{t:TypeId}{v:Value}(h:Boxed W B t v)(hb:Below n W W')(hB:B<n):Boxed W' B t v:=(hb.block B hB).trans h
theorem acm{W:World}{k:Nat}(h:k=W.heap.size)(t:TypeId)(v:Value):Boxed (W.alloc (.cells #[v] t)) k t v:=by subst h;exact Boxed.new W t v
def axf(w:World)(pre:List (Nat×T))(W:World):Prop:=
 Boxed W (w.heap.size+1) 26 (.int .i64 0)/\Boxed W (w.heap.size+1+1) 3 (.int .i64 (pre.length:Nat))/\Boxed W (w.heap.size+1+1+1) 3 (.int .i64 (mx 0 pre:Nat))/\
  Boxed W (w.heap.size+1+1+1+1) 4 (.bool (bad pre))/\pre.length<=400/\Below w.heap.size w W
def axg(w:World)(c:Code)(pre:List (Nat×T))(W:World):Prop:=c= .ret/\Boxed W (w.heap.size+1) 26 (.int .i64 2)/\400<pre.length/\Below w.heap.size w W
theorem aca(t:T)(ht:t.size<=1000000000000)(aM:Nat)(a:Option Addr)(c:Nat)(w:World)(hn:aM<=w.heap.size)(hwf:(Lit.int .i64 t.head).wf=true)(hA:aab aM w t.args a c):
 Calls Tryz.prog 100 #[tm t.head a t.args.length c] w fun e w'=>e= .returned (.int .i64 t.check)/\Below w.heap.size w w':=by
 have HA:=ae (hA.mono hn);clear hA hn aM;refine(callsIn_wide (n:=9)).1 ?_;refine callsIn_of_wp_marks Tryz.func100 rfl trivial ?_ rfl;simp only[Tryz.ntmps100,List.size_toArray,List.length_cons,List.length_nil,Nat.reduceAdd,Nat.reduceSub,Array.replicate_succ,Array.replicate_zero,List.push_toArray,List.append_toArray,List.nil_append,List.cons_append]
 gi_wp2_with (refine⟨trivial,?_⟩;gi_at_call 141;refine(callsIn_wide.2 (afm _ _ _ _ _)).mono ?_;rintro e w' ⟨rfl,rfl⟩)
 obtain⟨W3,hW3⟩:∃W3,((((((w.alloc (aaa t.head a t.args.length c)).alloc (.cells #[.int .i64 0] 26)).alloc (.cells #[.int .i64 0] 3)).alloc (.cells #[.int .i64 0] 3)).alloc (.cells #[.bool false] 4)).alloc (aaa t.head a t.args.length c))=W3:=⟨_,rfl⟩;have hB3:Below w.heap.size w W3:=by rw[←hW3];exact((((((ag _ w).alloc (af _) _).alloc (by simp) _).alloc (by simp;omega) _).alloc (by simp;omega) _).alloc (by simp;omega) _).alloc (by simp;omega) _
 have g1:Boxed W3 (w.heap.size+1) 26 (.int .i64 0):=by rw[←hW3];exact((((acm (by simp) _ _).alloc _).alloc _).alloc _).alloc _
 have g2:Boxed W3 (w.heap.size+1+1) 3 (.int .i64 0):=by rw[←hW3];exact(((acm (by simp) _ _).alloc _).alloc _).alloc _
 have g3:Boxed W3 (w.heap.size+1+1+1) 3 (.int .i64 0):=by rw[←hW3];exact((acm (by simp) _ _).alloc _).alloc _
 have g4:Boxed W3 (w.heap.size+1+1+1+1) 4 (.bool false):=by rw[←hW3];exact(acm (by simp) _ _).alloc _
 have f3:W3.cell? ⟨w.heap.size+1+1+1+1+1,0,none⟩=some (.int .i64 t.head):=by rw[←hW3];simp[go_sem]
 have f4:W3.cell? ⟨w.heap.size+1+1+1+1+1,1,none⟩=some (.slice a t.args.length c):=by rw[←hW3];simp[go_sem]
 have hs:W3.heap.size=w.heap.size+6:=by rw[←hW3];simp
 rw[hW3];clear hW3
 refine af3 rfl (by omega) (gf:=178) (lb:=#[.pointer (some ⟨w.heap.size+1+1+1+1+1,0,none⟩)]) rfl trivial (enters_of Tryz.func178 (by kernel_rfl) rfl)
  (afn Fence.wide 8 trivial rfl (by omega) t ht (w.heap.size+1+1+1+1+1) w.heap.size a c W3 (by omega) (by omega) hwf f3 f4 (HA.out.below hB3)) (ag _ _) (by omega) (fun _ _ _ _ h=>h.size) (fun _ _ _ _ _ h hb=>h.below hb)
  (axf w) (axg w)
  (fun pre X Y h hb=>⟨aa3 h.1 hb (by omega),aa3 h.2.1 hb (by omega),aa3 h.2.2.1 hb (by omega),aa3 h.2.2.2.1 hb (by omega),h.2.2.2.2.1,h.2.2.2.2.2.trans (hb.mono (by omega))⟩)
  (fun c pre X Y h hb=>⟨h.1,aa3 h.2.1 hb (by omega),h.2.2.1,h.2.2.2.trans (hb.mono (by omega))⟩)
  ⟨g1,g2,g3,g4,by simp,hB3⟩
  (fun x _ a' W=>∃Bx a1 c1,W3.heap.size<=Bx/\W.cell? ⟨Bx,0,none⟩=some (.int .i64 x.2.head)/\W.cell? ⟨Bx,1,none⟩=some (.slice a1 x.2.args.length c1)/\(Lit.int .i64 x.2.head).wf=true/\a'={ tmps:=#[tm t.head a t.args.length c,Value.pointer (some ⟨w.heap.size,0,none⟩),Value.pointer (some ⟨w.heap.size+1,0,none⟩),Value.pointer (some ⟨w.heap.size+1+1,0,none⟩),Value.pointer (some ⟨w.heap.size+1+1+1,0,none⟩),Value.pointer (some ⟨w.heap.size+1+1+1+1,0,none⟩),Value.int .i64 x.1,Value.pointer (some ⟨Bx,0,none⟩),Value.agg #[Value.int IntKind.i64 t.head,Value.slice a t.args.length c],Value.func (Fn.func 178) #[] #[Value.pointer (some ⟨w.heap.size+1+1+1+1+1,0,none⟩)],Value.int .i64 x.1,tm x.2.head a1 x.2.args.length c1,undef,undef,undef,undef,undef,undef,undef,undef,undef,undef,undef,undef,undef,undef,undef,undef],defers:=[]})
  (fun x vs a' W l o o' hl ho hoc ⟨Bx,a1,c1,h1,h2,h3,h4,h5⟩=>⟨Bx,a1,c1,h1,cell_kept h2 (grownBy_putObj' W l o') (fun r e=>by cases e;exact⟨o,ho,hoc⟩),cell_kept h3 (grownBy_putObj' W l o') (fun r e=>by cases e;exact⟨o,ho,hoc⟩),h4,h5⟩) ?assign ?body ?done ?stop
 case assign=>
  rintro l pre x vs W K hsz hi ⟨_,hxw,a1,c1,rfl,_⟩ hK;have hsz':w.heap.size+6<=W.heap.size:=by omega
  simp only[au9,List.setIfInBounds_toArray,List.set]
  gi_wp2
  refine hK _ _ ((Kept.refl _ _ _).alloc (by omega) _) ?_ ⟨W.heap.size,a1,c1,hsz,by simp[go_sem],by simp[go_sem],hxw,rfl⟩;obtain⟨k1,k2,k3,k4,k5,k6⟩:=hi;exact⟨k1.alloc _,k2.alloc _,k3.alloc _,k4.alloc _,k5,k6.alloc (by omega) _⟩
 case body=>
  rintro l pre x vs a' W hsz ⟨k1,k2,k3,k4,k5,k6⟩ hm ⟨Bx,a1,c1,hBx,hx1,hx2,hxw,rfl⟩;clear hm;have hz:w.heap.size+6<=W.heap.size:=by omega
  have d1:=k1.cell;have d2:=k2.cell;have d3:=k3.cell;have d4:=k4.cell;have e1:=k1.frozen;have e2:=k2.frozen;have e3:=k3.frozen;have e4:=k4.frozen;have hBxs:Bx≠w.heap.size+1/\Bx≠w.heap.size+1+1/\Bx≠w.heap.size+1+1+1/\Bx≠w.heap.size+1+1+1+1:=by omega
  obtain⟨n1,n2,n3,n4⟩:=hBxs;have HS:=ae hs;have K1:=ae k1;have K2:=ae k2;have K3:=ae k3;have K4:=ae k4;have K6:=ae k6;have hxl:=(ahI hxw).1;clear hs k1 k2 k3 k4 k6 hxw;by_cases hfull:pre.length=400
  ·have hq:(400:Int)<(pre.length:Int)+1:=by omega
   gi_wp2
   refine⟨((Kept.refl _ _ _).setCell (p:=⟨w.heap.size+1+1,0,none⟩) (by simp;omega) (.inl (by have:=HS.out;simp;omega)) _).setCell (p:=⟨w.heap.size+1,0,none⟩) (by simp) (.inl (by have:=HS.out;simp;omega)) _,rfl,?_,by simp;omega,?_⟩
   ·exact(aak K1.out (by omega) 0 _).set _
   ·exact(K6.out.setCell (p:=⟨w.heap.size+1+1,0,none⟩) (by simp;omega) _).setCell (p:=⟨w.heap.size+1,0,none⟩) (by simp) _
  ·have hq:¬(400:Int)<(pre.length:Int)+1:=by omega
   cases hbad:bad pre
   ·rw[hbad] at d4
    gi_wp2_with (refine⟨trivial,?_⟩;gi_at_call 142;go_must (refine(CallsIn.inRound l (callsIn_wide.2 (alr _ _ _ _ _ hxl))).mono ?_);rintro e w2 ⟨rfl,hB2⟩;have b4:=aa3 (aak (aak K4.out (by omega) 0 _) (by omega) 0 _) hB2 (by simp;omega);have B2:=ae hB2;clear hB2;rw[hbad] at b4;have d5:=b4.cell;have e5:=b4.frozen;have B4:=ae b4;clear b4)
    all_goals
     refine⟨(((((Kept.refl _ _ _).setCell (p:=⟨w.heap.size+1+1,0,none⟩) (by simp;omega) (.inl (by have:=HS.out;simp;omega)) _).setCell (p:=⟨w.heap.size+1+1+1,0,none⟩) (by simp;omega) (.inl (by have:=HS.out;simp;omega)) _)).below (by simp;omega) B2.out).setCell (p:=⟨w.heap.size+1+1+1+1,0,none⟩) (by simp;omega) (.inl (by have:=HS.out;simp;omega)) _,?_,?_,?_,?_,by simp;omega,?_⟩
     ·exact aak (aa3 (aak (aak K1.out (by omega) 0 _) (by omega) 0 _) B2.out (by simp;omega)) (by omega) 0 _
     ·have h:=aak (aa3 (aak (K2.out.set _) (by omega) 0 _) B2.out (by simp;omega)) (B':=w.heap.size+1+1+1+1) (by omega) 0 (.bool (!okB x.2.head x.2.args.length));simpa using h
     ·have h:=aak (aa3 ((aak K3.out (by omega) 0 _).set _) B2.out (by simp;omega)) (B':=w.heap.size+1+1+1+1) (by omega) 0 (.bool (!okB x.2.head x.2.args.length));have h2:(if mx 0 pre<x.1 then(x.1:Int) else(mx 0 pre:Int))=((max (mx 0 pre) x.1:Nat):Int):=by split<;>omega
      first|rw[h2] at h|rw[show max ((mx 0 pre:Nat):Int) (x.1:Int)=((max (mx 0 pre) x.1:Nat):Int) from by omega] at h
      rw[aoG];exact h
     ·rw[amt,hbad];simpa using B4.out.set (.bool (!okB x.2.head x.2.args.length))
     ·exact((((K6.out.setCell (p:=⟨w.heap.size+1+1,0,none⟩) (by simp;omega) _).setCell (p:=⟨w.heap.size+1+1+1,0,none⟩) (by simp;omega) _)).trans (B2.out.mono (by simp;omega))).setCell (p:=⟨w.heap.size+1+1+1+1,0,none⟩) (by simp;omega) _
   ·rw[hbad] at d4
    gi_wp2
    all_goals
     refine⟨trivial,?_⟩
     gi_wp2
     refine⟨((((Kept.refl _ _ _).setCell (p:=⟨w.heap.size+1+1,0,none⟩) (by simp;omega) (.inl (by have:=HS.out;simp;omega)) _).setCell (p:=⟨w.heap.size+1+1+1,0,none⟩) (by simp;omega) (.inl (by have:=HS.out;simp;omega)) _)).setCell (p:=⟨w.heap.size+1+1+1+1,0,none⟩) (by simp;omega) (.inl (by have:=HS.out;simp;omega)) _,?_,?_,?_,?_,by simp;omega,?_⟩
     ·exact aak (aak (aak K1.out (by omega) 0 _) (by omega) 0 _) (by omega) 0 _
     ·rw[show((pre++[x]).length:Int)=(pre.length:Int)+1 from by simp];exact aak (aak (K2.out.set _) (by omega) 0 _) (by omega) 0 _
     ·rw[aoG]
      first
       |(rw[show max (mx 0 pre) x.1=x.1 from by omega];exact aak ((aak K3.out (by omega) 0 _).set _) (by omega) 0 _)
       |(rw[show max (mx 0 pre) x.1=mx 0 pre from by omega];exact aak ((aak K3.out (by omega) 0 _).set _) (by omega) 0 _)
       |(rw[show((max (mx 0 pre) x.1:Nat):Int)=max ((mx 0 pre:Nat):Int) (x.1:Int) from by omega];exact aak ((aak K3.out (by omega) 0 _).set _) (by omega) 0 _)
     ·rw[amt,hbad];exact(aak (aak K4.out (by omega) 0 _) (by omega) 0 _).set _
     ·exact(((K6.out.setCell (p:=⟨w.heap.size+1+1,0,none⟩) (by simp;omega) _).setCell (p:=⟨w.heap.size+1+1+1,0,none⟩) (by simp;omega) _)).setCell (p:=⟨w.heap.size+1+1+1+1,0,none⟩) (by simp;omega) _
 case done=>
  rintro D xs W hD rfl ⟨k1,k2,k3,k4,k5,k6⟩ hK;rw[T.subs_length] at k2 k5;rw[ava] at k3;have d1:=k1.cell;have d3:=k3.cell;have d4:=k4.cell;have e1:=k1.frozen;have HS:=ae hs;have K1:=ae k1;have K6:=ae k6;clear hs k1 k2 k3 k4 k6;have fin:∀q:Int,(W.setCell ⟨w.heap.size+1,0,none⟩ (.int .i64 q)).heap[D]? =some (.deferred (some [])):=fun q=>(an W ⟨w.heap.size+1,0,none⟩ _ D (by have:=HS.out;simp;omega)).trans hK;have FIN:=ae fin;clear fin;by_cases hdp:40<t.depth
  ·gi_wp2
   refine⟨by simp,.inl ⟨_,_,rfl,run_takeDeferred (FIN.out 7),?_⟩⟩;have d1:=cell_kept (K1.out.set (.int .i64 7)).cell (grownBy_putObj' _ D (.deferred none)) (fun r e=>by cases e;exact⟨_,FIN.out 7,rfl⟩);refine⟨.int .i64 7,by simp[results,Tryz.results100,go_sem,d1],?_,(K6.out.setCell (p:=⟨w.heap.size+1,0,none⟩) (by simp) _).trans (aaw _ (FIN.out 7) (by have:=HS.out;omega))⟩;rw[T.check,if_neg (by omega),if_pos (by omega)]
  ·cases hbad:bad (T.subs 1 t)
   ·rw[hbad] at d4;have HBD:=ae hbad;clear hbad
    gi_wp2
    refine⟨by simp,.inl ⟨_,_,rfl,run_takeDeferred (FIN.out 0),?_⟩⟩;have d1:=cell_kept (K1.out.set (.int .i64 0)).cell (grownBy_putObj' _ D (.deferred none)) (fun r e=>by cases e;exact⟨_,FIN.out 0,rfl⟩);refine⟨.int .i64 0,by simp[results,Tryz.results100,go_sem,d1],?_,(K6.out.setCell (p:=⟨w.heap.size+1,0,none⟩) (by simp) _).trans (aaw _ (FIN.out 0) (by have:=HS.out;omega))⟩;rw[T.check,if_neg (by omega),if_neg (by omega),HBD.out];rfl
   ·rw[hbad] at d4;have HBD:=ae hbad;clear hbad
    gi_wp2
    refine⟨by simp,.inl ⟨_,_,rfl,run_takeDeferred (FIN.out 1),?_⟩⟩;have d1:=cell_kept (K1.out.set (.int .i64 1)).cell (grownBy_putObj' _ D (.deferred none)) (fun r e=>by cases e;exact⟨_,FIN.out 1,rfl⟩);refine⟨.int .i64 1,by simp[results,Tryz.results100,go_sem,d1],?_,(K6.out.setCell (p:=⟨w.heap.size+1,0,none⟩) (by simp) _).trans (aaw _ (FIN.out 1) (by have:=HS.out;omega))⟩;rw[T.check,if_neg (by omega),if_neg (by omega),HBD.out];rfl
 case stop=>
  rintro D c pre W hD hpre ⟨rfl,k1,k2,k3⟩ hK
  gi_wp2
  refine⟨by simp,.inl ⟨_,_,rfl,run_takeDeferred hK,?_⟩⟩;have d1:=cell_kept k1.cell (grownBy_putObj' W D (.deferred none)) (fun r e=>by cases e;exact⟨_,hK,rfl⟩);refine⟨.int .i64 2,by simp[results,Tryz.results100,go_sem,d1],?_,k3.trans (aaw _ hK (by omega))⟩;have:=hpre.length_le;rw[T.subs_length] at this;rw[T.check,if_pos (by omega)]
end Go.Proofs.YtabfapijgfjflaaGreat
namespace Go.Proofs.YtabfapijgfjflaaGreat
open Go.RowKit Go.Shelf
attribute [local go_sem] Oper.semAt_some
def varStep(acc:List Int)(x:Nat×T):List Int:=if x.2.head<0 then(if acc.contains (-1-x.2.head) then acc else acc++[-1-x.2.head]) else acc
def varsOf(pre:List (Nat×T)):List Int:=pre.foldl varStep []
theorem ahp(acc:List Int)(x:Nat×T):(varStep acc x).length<=acc.length+1:=by
 unfold varStep;split
 ·split
  ·omega
  ·simp
 ·omega
theorem ab4.alloc{aM B:Nat}{own:TypeId->Bool}{X Y:World}(h:ab4 aM B own X Y)(hn:aM<=X.heap.size)(o:Obj):ab4 aM B own X (Y.alloc o):=
 ⟨h.1.alloc (aE hn h.1.size) o,fun b hb hl ho=>(az _ _ _ (aF hl h.1.size)).trans (h.2 b hb hl ho)⟩
theorem ab4.grown{aM B:Nat}{own:TypeId->Bool}{X Y Z:World}{row:Option Nat}(h:ab4 aM B own X Y)(hg:Y.grownBy Z row)(hn:aM<=Y.heap.size)
 (hr:∀k,row=some k->aM<=k/\(k<B\/∃cs e fz,X.heap[k]? =some (Obj.cells cs e fz)/\own e=false)):ab4 aM B own X Z:=
 ⟨h.1.grown hg hn (fun k e=>(hr k e).1),fun b hb hl ho=>(hg.block b (aF hl h.1.size) (fun e=>by
  rcases(hr b e.symm).2 with h1|⟨cs,e',fz,h1,h2⟩
  ·omega
  ·rw[ho cs e' fz h1] at h2;cases h2)).trans (h.2 b hb hl ho)⟩
theorem ab4.setCell{aM B:Nat}{own:TypeId->Bool}{X Y:World}(h:ab4 aM B own X Y){p:Addr}(hp:aM<=p.block)(hq:p.block<B)(u:Value):ab4 aM B own X (Y.setCell p u):=
 ⟨h.1.setCell hp u,fun b hb hl ho=>(an _ _ _ _ (by omega)).trans (h.2 b hb hl ho)⟩
theorem awL:(Tryz.prog.info? 3).map (fun i=>(i.zero,i.size,i.bytes))=some (some (.int .i64 0),1,8):=by kernel_rfl
end Go.Proofs.YtabfapijgfjflaaGreat
namespace Go.Proofs.YtabfapijgfjflaaGreat
open Go.RowKit
theorem aoH:∀(N:Nat) (t:T),t.size<=N->∀(most:Nat) (aM:Nat) (a:Option Addr) (c:Nat) (w:World),most<=500->aM<=w.heap.size->aab aM w t.args a c->
 Calls Tryz.prog 56 #[tm t.head a t.args.length c,.int .i64 most] w fun e w'=>e= .returned (.int .i64 (min t.size (most+1):Nat))/\Below w.heap.size w w':=by
 intro N
 induction N with
 |zero=>intro t ht;have:=T.size_pos t;omega
 |succ N ih=>
  intro t ht most aM a c w hm hn hA;have IH:=ae ih;clear ih;have hsz:=T.size_eq t;have HS:=ae hsz;clear hsz;have hlc:t.args.length<=c/\c<=maxLen:=⟨hA.1,hA.2.1⟩;unfold maxLen at hlc;obtain⟨hl1,hl2⟩:=hlc;generalize hL:t.args.length=len at*;have HL:=ae hL;clear hL;have HA:=ae hA;clear hA;go_enter Tryz.func56,Tryz.ntmps56;go_wp2
  go_loopw [5,6] (fun n i wr=>∃k:Nat,k<=len/\i= .int .i64 k/\n= .int .i64 (min (1+T.sizes (t.args.take k)) (most+1):Nat)/\Below (w.heap.size+1) (w.alloc (aaa t.head a len c)) wr)
   (fun _ i _=>len-(intOf i).toNat)
  case atStart=>exact⟨0,Nat.zero_le _,rfl,by simp[T.sizes],ag _ _⟩
  case round=>
   obtain⟨k,hk,rfl,rfl,hB⟩:=hrel;generalize hm':min (1+T.sizes (t.args.take k)) (most+1)=m at*;have hmb:m<=501:=by omega
   have HM:=ae hm';clear hm';have hbox:wr.cell? ⟨w.heap.size,1,none⟩=some (.slice a len c):=(hB.cell (p:=⟨w.heap.size,1,none⟩) (by simp)).trans (by simp[go_sem]);have HB:=ae hB;clear hB;by_cases hlt:k<len
   ·by_cases hle:m<=most
    ·have hw:Below aM w wr:=((ag aM w).alloc hn _).trans (HB.out.mono (by omega));obtain⟨b,o,s,a',c',rfl,hbn,hs,hwf,hc1,hc2,hA'⟩:=(HA.out.below hw).elem (i:=k) (by rw[HL.out];exact hlt);have hs1:wr.heap.size≥w.heap.size+1:=by have:=HB.out.size;simpa using this
     have hsN:s.size<=N:=by have:=T.size_lt_of_mem hs;have:=HS.out;omega
     have HSS:=ae hs;have HA':=ae hA';clear hs hA' hw hwf
     go_wp2_with fail
     rw[show((most:Int)-(m:Int))=((most-m:Nat):Int) from by omega];refine(IH.out s hsN (most-m) aM a' c' wr (by omega) (by omega) HA'.out).mono ?_;rintro e w2 ⟨rfl,hB2⟩;generalize hr:min s.size (most-m+1)=r;have hrb:r<=501:=by omega
     have HR:=ae hr;have HB2:=ae hB2;clear hr hB2;go_wp2
     go_roundw
     case rel=>
      refine⟨k+1,by omega,by go_num,?_,HB.out.trans (HB2.out.mono (by omega))⟩;have h1:=HM.out;have h2:=HR.out;have h3:=T.sizes_take HSS.out;rw[show((m:Int)+(r:Int))=((m+r:Nat):Int) from by omega];exact congrArg (fun x:Nat=>Value.int .i64 (x:Int)) (by omega)
     case measure=>simp[intOf];omega
    ·go_wp2;go_ret;refine⟨?_,(((ag w.heap.size w).alloc (af _) _).trans (HB.out.mono (by omega)))⟩;have h1:=HM.out;have h2:=HS.out;have h3:=T.sizes_append (t.args.take k) (t.args.drop k);rw[List.take_append_drop] at h3;exact congrArg (fun x:Nat=>Ending.returned (.int .i64 (x:Int))) (by omega)
   ·go_wp2;go_ret;refine⟨?_,(((ag w.heap.size w).alloc (af _) _).trans (HB.out.mono (by omega)))⟩;have h1:=HM.out;have h2:=HS.out;rw[List.take_of_length_le (by have:=HL.out;omega)] at h1;exact congrArg (fun x:Nat=>Ending.returned (.int .i64 (x:Int))) (by omega)
theorem T.args_node(h:Int)(ts:List T):(T.node h ts).args=ts:=rfl
def Z0:T:= .node 0 []
def aai(F:World->Prop)(W:World):Prop:=∀W',Below W.heap.size W W'->F W'
theorem aai.now{F:World->Prop}{W:World}(h:aai F W):F W:=h W (ag _ _)
theorem aai.mv{F:World->Prop}{W W':World}(h:aai F W)(hb:Below W.heap.size W W'):aai F W':=fun X hX=>h X (hb.trans (hX.mono hb.size))
theorem aai.and{F G:World->Prop}{W:World}(h:aai F W)(k:aai G W):aai (fun X=>G X/\F X) W:=fun X hX=>⟨k X hX,h X hX⟩
theorem aai.below{w W:World}(h:Below w.heap.size w W):aai (fun X=>Below w.heap.size w X) W:=fun X hX=>h.trans (hX.mono h.size)
theorem aeP{W:World}{ts:List T}{a:Option Addr}{c:Nat}(h:aab W.heap.size W ts a c):aai (fun X=>aab X.heap.size X ts a c) W:=fun X hX=>(h.below hX).mono hX.size
theorem afJ{W:World}{zs:List Int}{a:Option Addr}{c:Nat}(h:acP W.heap.size W zs a c):aai (fun X=>acP X.heap.size X zs a c) W:=fun X hX=>(h.below hX).mono hX.size
def Vc(b:Nat)(h:Int)(a:Option Addr)(n c:Nat)(X:World):Prop:=X.cell? ⟨b,0,none⟩=some (.int .i64 h)/\X.cell? ⟨b,1,none⟩=some (.slice a n c)
theorem aaP(W:World)(h:Int)(a:Option Addr)(n c:Nat):aai (Vc W.heap.size h a n c) (W.alloc (aaa h a n c)):=fun X hX=>
 ⟨(hX.cell (p:=⟨W.heap.size,0,none⟩) (by simp)).trans (by simp[go_sem]),(hX.cell (p:=⟨W.heap.size,1,none⟩) (by simp)).trans (by simp[go_sem])⟩
theorem aai.push{F:World->Prop}{W W':World}(k:aai F W)(hb:Below W.heap.size W W')(h:Int)(a:Option Addr)(n c:Nat):aai (fun X=>Vc W'.heap.size h a n c X/\F X) (W'.alloc (aaa h a n c)):=
 (k.mv (hb.alloc hb.size _)).and (aaP W' h a n c)
theorem aah(W:World)(o:Obj):(W.alloc o).heap.size=W.heap.size+1:=by simp
end Go.Proofs.YtabfapijgfjflaaGreat
