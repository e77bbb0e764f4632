import Derived.Test.YtabfapijgfjflaaGreatMQBp
import Derived.Test.YtabfapijgfjflaaGreatMQBn
import Derived.Test.YtabfapijgfjflaaGreatMQBl
import Derived.Test.YtabfapijgfjflaaGreatMQBm
import Derived.Test.YtabfapijgfjflaaGreatMQBa
import Derived.Test.YtabfapijgfjflaaGreatMQBd
import Derived.Test.YtabfapijgfjflaaGreatMQBb
import Derived.Test.YtabfapijgfjflaaGreatMAl
set_option linter.unusedVariables false
set_option linter.unusedSimpArgs false
namespace Go.Proofs.YtabfapijgfjflaaGreat
open Go.RowKit
mutual
theorem T.nrm_rv(t:T)(hg:bad (T.subs 1 t)=false)(N:List Int):(t.nrm N).2=dd N t.rv:=by
 match t with
 | .node h ts=>
   by_cases q:h<0
   ·rw[T.nrm_neg (t:= .node h ts) q];have e2:ts=[]:=aaZ (t:= .node h ts) hg q;subst e2;simp only[T.head,T.rv,T.rvs,if_pos q];rfl
   ·rw[T.nrm_pos (t:= .node h ts) q];have hgs:∀s∈ts,bad (T.subs 1 s)=false:=fun s hs=>by obtain⟨i,hi⟩:=au hs;exact aaA (t:= .node h ts) hg hi
    simp only[T.args,T.rv,if_neg q];rw[T.nrms_rv ts hgs N,T.rvs_dd];rfl
theorem T.nrms_rv(ts:List T)(hg:∀s∈ts,bad (T.subs 1 s)=false)(N:List Int):(T.nrms ts N).2=T.rvs N ts:=by
 match ts with
 |[]=>rfl
 |t::ts=>
  simp only[T.nrms,T.rvs];rw[T.nrms_rv ts (fun s hs=>hg s (by simp[hs])),T.nrm_rv t (hg t (by simp))]
end
theorem arZ{ts:List T}(hg:∀s∈ts,bad (T.subs 1 s)=false):(T.nrms ts []).1=ts.map (T.sub (ofS (au4 (T.rvs [] ts))))/\∀v∈T.rvs [] ts,0<=v/\v<=255:=by
 obtain⟨_,h2,h3⟩:=T.nrms_sub ts hg [];have h:=h3 [];rw[List.append_nil] at h;rw[T.nrms_rv ts hg []] at h h2;refine⟨?_,fun v hv=> ?_⟩
 ·rw[h];apply List.map_congr_left;intro s hs;refine acu _ s (af _) (hg s hs) fun g hg' hn=> ?_;have: -1-g∈T.rvs [] ts:=(h2 _).2 (.inr ⟨s,hs,(acg _ _).2 ⟨by rw[show-1-(-1-g)=g from by omega];exact hg',by omega⟩⟩);exact(aud this).symm
 ·rcases(h2 v).1 hv with h|⟨s,hs,h⟩
  ·simp at h
  ·exact agQ (hg s hs) h
theorem aih(f:Int->T)(c:List Lt3):aad (c.map (Lt3.sub f))=(aad c).map (T.sub f):=by
 induction c with
 |nil=>rfl
 |cons x c ih=>simp only[aad,List.map_cons,List.flatten_cons,List.map_append] at*;rw[ih];rfl
theorem ajk:∀{a b:List Lt3},a.map Lt3.neg=b.map Lt3.neg->aad a=aad b->a=b
 |[],[],_,_=>rfl
 |[],_::_,h,_=>by simp at h
 |_::_,[],h,_=>by simp at h
 |x::a,y::b,h,k=>by
  simp only[List.map_cons,List.cons.injEq] at h;simp only[aad,List.map_cons,List.flatten_cons,List.cons_append,List.nil_append,List.cons.injEq] at k;obtain⟨k1,k2,k3⟩:=k;have:=ajk (a:=a) (b:=b) h.2 k3;subst this;obtain⟨n,l,r⟩:=x;obtain⟨n',l',r'⟩:=y;simp only at h k1 k2;obtain⟨rfl,_⟩:=h;subst k1 k2;rfl
theorem ach{ts:List T}(h:abv ts=false):∀t∈ts,t.check=0/\bad (T.subs 1 t)=false:=fun t ht=>by
 unfold abv at h;rw[List.any_eq_false] at h;have:=h t ht;simp only[decide_eq_true_eq,ne_eq,Decidable.not_not] at this;exact⟨this,(aam this).2.2⟩
theorem aeu{c:List Lt3}(h:abv (aad c)=false):aad (nmL c)=(T.nrms (aad c) []).1:=by
 unfold nmL;rw[h,if_neg (by decide),aih];exact(arZ (fun s hs=>(ach h s hs).2)).1.symm
theorem apF(c:List Lt3)(h:abv (aad c)=false):(nmL c).map Lt3.neg=c.map Lt3.neg:=by
 unfold nmL;rw[h,if_neg (by decide),List.map_map];rfl
theorem abk{c:List Lt3}{t:T}:t∈aad c↔∃x∈c,t=x.l\/t=x.r:=by
 unfold aad;rw[List.mem_flatten];constructor
 ·rintro⟨l,hl,ht⟩;obtain⟨x,hx,rfl⟩:=List.mem_map.1 hl;exact⟨x,hx,by simpa using ht⟩
 ·rintro⟨x,hx,ht⟩;exact⟨_,List.mem_map.2 ⟨x,hx,rfl⟩,by simpa using ht⟩
open Go.Maps
theorem acY{P:Program}{k:TypeId}{R:Value->Option (DataW Value×List MemPlace)}{w:World}{b n:Nat}{D:DataW Value}(h:w.ownsMap P k R b n D):w.ownsMap P k R b (Maps.size D) D:=by
 have:=h.size_le;obtain⟨es,clock,hb,F,hs,rfl⟩:=h;exact⟨es,clock,hb,F,by simp[Maps.size,length_sorted],rfl⟩
def wfi(v:Int):Prop:= -9223372036854775808<=v/\v<=9223372036854775807
def upd{α:Type}(f:Int->Option α)(x:Int)(u:α)(v:Int):Option α:=if v=x then some u else f v
theorem wfi.wf{v:Int}(h:wfi v):(Lit.int .i64 v).wf=true:=WalkArith.wf_i64 h
end Go.Proofs.YtabfapijgfjflaaGreat
