import Derived.Test.YtabfapijgfjflaaGreatMQBb
import Derived.Test.YtabfapijgfjflaaGreatMQBe
import Derived.Laws.OwnMore
import Derived.WalkSmall
import Derived.Test.YtabfapijgfjflaaGreatMQBa
import Derived.Shelf.SlSortCmp.WholeK
import Derived.Test.YtabfapijgfjflaaGreatMAl
set_option linter.unusedVariables false
set_option linter.unusedSimpArgs false
set_option maxRecDepth 100000
set_option maxHeartbeats 2000000
namespace Go.Proofs.YtabfapijgfjflaaGreat
open Go.RowKit
mutual
def T.dif:T->T->Option (List (List T×List T))
 | .node _ aas,t=>T.difs aas t.args
def T.difs:List T->List T->Option (List (List T×List T))
 |[],_=>none
 |_::_,[]=>none
 |x::xs,y::ys=>if x.head≠y.head\/x.args.length≠y.args.length then some [(x::xs,y::ys)] else
   match T.dif x y with
   |some s=>some (s++[(xs,ys)])
   |none=>T.difs xs ys
end
def resume:List (List T×List T)->Option (List (List T×List T))
 |[]=>none
 |p::fs=>match T.difs p.1 p.2 with
  |some s=>some (s++fs)
  |none=>resume fs
theorem T.dif_eq(x y:T):T.dif x y=T.difs x.args y.args:=by cases x;simp[T.dif,T.args]
def differ(x y:T):Prop:=x.head≠y.head\/x.args.length≠y.args.length
theorem aiX{x y:T}{xs ys:List T}{fs:List (List T×List T)}(h:differ x y):resume ((x::xs,y::ys)::fs)=some ((x::xs,y::ys)::fs):=by
 unfold differ at h;simp[resume,T.difs,h]
theorem agp{x y:T}{xs ys:List T}{fs:List (List T×List T)}(h:¬differ x y):resume ((x::xs,y::ys)::fs)=resume ((x.args,y.args)::(xs,ys)::fs):=by
 unfold differ at h;simp only[resume,T.difs,if_neg h,T.dif_eq];cases T.difs x.args y.args with
 |none=>rfl
 |some s=>simp
theorem ahO{fs:List (List T×List T)}{ys:List T}:resume (([],ys)::fs)=resume fs:=by simp[resume,T.difs]
theorem alz{x y:T}{xs ys:List T}{fs:List (List T×List T)}(h:¬differ x y)(h0:x.args=[]):resume ((x::xs,y::ys)::fs)=resume ((xs,ys)::fs):=by
 rw[agp h,h0,ahO]
mutual
theorem T.dif_self:(x:T)->T.dif x x=none
 | .node _ aas=>by simp only[T.dif,T.args];exact T.difs_self aas
theorem T.difs_self:(xs:List T)->T.difs xs xs=none
 |[]=>by simp[T.difs]
 |x::xs=>by
  have h1:=T.dif_self x;have h2:=T.difs_self xs;simp[T.difs,h1,h2]
end
mutual
theorem T.eq_of_dif:(x y:T)->¬differ x y->T.dif x y=none->x=y
 | .node h aas,.node k bs,hd,h0=>by
   simp only[differ,T.head,T.args,not_or,Decidable.not_not] at hd;simp only[T.dif,T.args] at h0;rw[hd.1,T.eq_of_difs aas bs hd.2 h0]
theorem T.eq_of_difs:(xs ys:List T)->xs.length=ys.length->T.difs xs ys=none->xs=ys
 |[],ys,hl,_=>by simp at hl;rw[aC hl.symm]
 |_::_,[],hl,_=>by simp at hl
 |x::xs,y::ys,hl,h0=>by
  rw[T.difs] at h0;by_cases hd:x.head≠y.head\/x.args.length≠y.args.length
  ·rw[if_pos hd] at h0;cases h0
  ·rw[if_neg hd] at h0;cases h1:T.dif x y with
   |some s=>rw[h1] at h0;cases h0
   |none=>
    rw[h1] at h0;rw[T.eq_of_dif x y hd h1,T.eq_of_difs xs ys (by simpa using hl) h0]
end
theorem adp(a b:T):resume [([a],[b])]=none↔a=b:=by
 constructor
 ·intro h;simp only[resume] at h;cases h1:T.difs [a] [b] with
  |some s=>rw[h1] at h;cases h
  |none=>have:=T.eq_of_difs [a] [b] rfl h1;simpa using this
 ·rintro rfl;simp[resume,T.difs_self]
def ac2:List (List T×List T)->Nat
 |[]=>0
 |p::fs=>2*T.sizes p.1+1+ac2 fs
theorem abw{xs ys zs bs:List T}{j:Nat}{x:T}(hx:xs[j]? =some x)(fs:List (List T×List T)):ac2 ((x.args,zs)::(xs.drop (j+1),bs)::fs)<ac2 ((xs,ys)::fs):=by
 have h1:=T.sizes_append (xs.take j) (xs.drop j);rw[List.take_append_drop,T.sizes_drop hx,T.size_eq] at h1;simp only[ac2];omega
def ahk(aN:Nat)(W:World):List (List T×List T)->List (Value×Value)->Prop
 |[],[]=>True
 |p::fs,v::vs=>(∃a c,v.1= .slice a p.1.length c/\aab aN W p.1 a c)/\(∃a c,v.2= .slice a p.2.length c/\aab aN W p.2 a c)/\p.1.length=p.2.length/\ahk aN W fs vs
 |_,_=>False
theorem ahk.length{aN:Nat}{W:World}:∀{fs:List (List T×List T)} {vs:List (Value×Value)},ahk aN W fs vs->fs.length=vs.length
 |[],[],_=>rfl
 |_::_,_::_,h=>by simp[ahk.length h.2.2.2]
 |[],_::_,h=>h.elim
 |_::_,[],h=>h.elim
theorem ahk.below{aN:Nat}{W W':World}(hb:Below aN W W'):∀{fs:List (List T×List T)} {vs:List (Value×Value)},ahk aN W fs vs->ahk aN W' fs vs
 |[],[],_=>trivial
 |_::_,_::_,⟨⟨a,c,h1,h2⟩,⟨a',c',h3,h4⟩,h5,h6⟩=>⟨⟨a,c,h1,h2.below hb⟩,⟨a',c',h3,h4.below hb⟩,h5,ahk.below hb h6⟩
 |[],_::_,h=>h.elim
 |_::_,[],h=>h.elim
def aeU:List (Value×Value)->List Value
 |[]=>[]
 |v::vs=>aeU vs++[v.1,v.2]
theorem aaS:∀vs:List (Value×Value),(aeU vs).length=vs.length*2
 |[]=>rfl
 |v::vs=>by simp[aeU,aaS vs];omega
theorem afL(v:Value×Value)(vs:List (Value×Value)):(aeU (v::vs))[vs.length*2]? =some v.1:=by
 rw[aeU,List.getElem?_append_right (by rw[aaS];exact af _),aaS];simp
theorem afM(v:Value×Value)(vs:List (Value×Value)):(aeU (v::vs))[vs.length*2+1]? =some v.2:=by
 rw[aeU,List.getElem?_append_right (by rw[aaS];omega),aaS];simp
theorem arw(v:Value×Value)(vs:List (Value×Value))(u1 u2:Value):((aeU (v::vs)).set (vs.length*2) u1).set (vs.length*2+1) u2=aeU ((u1,u2)::vs):=by
 rw[aeU,List.set_append_right _ _ (by rw[aaS];exact af _),List.set_append_right _ _ (by rw[aaS];omega),aaS];simp[aeU]
theorem aeV{xs:List T}{j:Nat}{s:T}(h:xs[j]? =some s):xs.drop j=s::xs.drop (j+1):=by
 obtain⟨hi,e⟩:=ah.1 h;rw[aD hi,e]
theorem afF{xs ys:List T}{j:Nat}{s1 s2:T}(h1:xs[j]? =some s1)(h2:ys[j]? =some s2)(hd:differ s1 s2)(fs:List (List T×List T)):resume ((xs.drop j,ys.drop j)::fs)=some ((xs.drop j,ys.drop j)::fs):=by
 rw[aeV h1,aeV h2];exact aiX hd
theorem ahx{xs ys:List T}{j:Nat}{s1 s2:T}(h1:xs[j]? =some s1)(h2:ys[j]? =some s2)(hd:¬differ s1 s2)(fs:List (List T×List T)):resume ((xs.drop j,ys.drop j)::fs)=resume ((s1.args,s2.args)::(xs.drop (j+1),ys.drop (j+1))::fs):=by
 rw[aeV h1,aeV h2];exact agp hd
theorem ahy{xs ys:List T}{j:Nat}{s1 s2:T}(h1:xs[j]? =some s1)(h2:ys[j]? =some s2)(hd:¬differ s1 s2)(h0:s1.args.length=0)(fs:List (List T×List T)):resume ((xs.drop j,ys.drop j)::fs)=resume ((xs.drop (j+1),ys.drop (j+1))::fs):=by
 rw[aeV h1,aeV h2];exact alz hd (aC h0)
theorem ab9{w1 wx:World}{base:Nat}{e:TypeId}{g cap k:Nat}{v:Value×Value}{vs:List (Value×Value)}(hO:w1.ownsRow base e 2 (.slice (some ⟨g,0,none⟩) (k+1) cap) (k+1) (aeU (v::vs)))(hk:k=vs.length)(hb:Below w1.heap.size w1 wx)(u1 u2:Value):
 (((wx.setCell ⟨g,k*2,none⟩ u1).setCell ⟨g,k*2+1,none⟩ u2).drew).ownsRow base e 2 (.slice (some ⟨g,0,none⟩) (k+1) cap) (k+1) (aeU ((u1,u2)::vs))/\Below base wx (((wx.setCell ⟨g,k*2,none⟩ u1).setCell ⟨g,k*2+1,none⟩ u2).drew):=by
 have hg:=hO.lt g rfl;have hO1:=abA hO (hb.block g hg.2);have h2:=((hO1.stored (k*2) u1).1.stored (k*2+1) u2).1;subst hk;rw[arw] at h2;exact⟨h2,(((ag base wx).setCell (p:=⟨g,vs.length*2,none⟩) hg.1 u1).setCell (p:=⟨g,vs.length*2+1,none⟩) hg.1 u2).drew⟩
theorem aab.tail{aN:Nat}{W:World}{ts:List T}{b o c:Nat}(h:aab aN W ts (some ⟨b,o,none⟩) c){j:Nat}(hj:j<=ts.length):
 aab aN W (ts.drop j) (some ⟨b,if c=j then o else o+j*2,none⟩) (c-j):=by
 obtain⟨h1,h2,h3⟩:=h;refine⟨by rw[List.length_drop];omega,by omega,?_⟩;by_cases h:c=j
 ·left;rw[List.drop_eq_nil_iff];omega
 ·rcases h3 with rfl|⟨b',o',e,h4,h5⟩
  ·left;simp
  ·cases e
   right
   refine⟨b,_,rfl,h4,?_⟩;rw[if_neg h];exact h5.drop j hj
end Go.Proofs.YtabfapijgfjflaaGreat
namespace Go.Proofs.YtabfapijgfjflaaGreat
def avj(a b c:Int):Int:=if a≠0 then a else if b≠0 then b else c
theorem aoZ{a b:Int}:ord a b<0↔a<b:=by unfold ord;split<;>(try split)<;>omega
theorem alA(a b:Int):ord b a= -ord a b:=by unfold ord;split<;>(try split)<;>(try split)<;>omega
theorem alB(a b:Int):ord (a-b) 0=ord a b:=by unfold ord;split<;>(try split)<;>(try split)<;>(try split)<;>omega
theorem T.cmp_size{x y:T}(h:x.size≠y.size):T.cmp x y=ord x.size y.size:=by rw[T.cmp_eq,if_pos h]
theorem T.cmp_head{x y:T}(h1:x.size=y.size)(h2:x.head≠y.head):T.cmp x y=ord x.head y.head:=by rw[T.cmp_eq,if_neg (by omega),if_pos h2]
theorem T.cmp_len{x y:T}(h1:x.size=y.size)(h2:x.head=y.head)(h3:x.args.length≠y.args.length):T.cmp x y=ord x.args.length y.args.length:=by rw[T.cmp_eq,if_neg (by omega),if_neg (by omega),if_pos h3]
theorem T.cmp_args{x y:T}(h1:x.size=y.size)(h2:x.head=y.head)(h3:x.args.length=y.args.length):T.cmp x y=T.cmps x.args y.args:=by rw[T.cmp_eq,if_neg (by omega),if_neg (by omega),if_neg (by omega)]
mutual
theorem T.cmp_self:(x:T)->T.cmp x x=0
 | .node h ts=>by
   rw[T.cmp_eq];simp only[ne_eq,not_true_eq_false,if_false];exact T.cmps_self ts
theorem T.cmps_self:(xs:List T)->T.cmps xs xs=0
 |[]=>by simp[T.cmps]
 |x::xs=>by simp[T.cmps,T.cmp_self x,T.cmps_self xs]
end
mutual
theorem T.eq_of_cmp:(x y:T)->T.cmp x y=0->x=y
 | .node h ts,.node k us,h0=>by
   rw[T.cmp_eq] at h0;split at h0
   ·rename_i h1;rw[ac1] at h0;omega
   split at h0
   ·rename_i h1;rw[ac1] at h0;exact absurd h0 h1
   split at h0
   ·rename_i h1;rw[ac1] at h0;omega
   rename_i _ h1 h2;simp only[T.head,T.args,ne_eq,Decidable.not_not] at h1 h2 h0;rw[h1,T.eq_of_cmps ts us h2 h0]
theorem T.eq_of_cmps:(xs ys:List T)->xs.length=ys.length->T.cmps xs ys=0->xs=ys
 |[],ys,hl,_=>by simp at hl;rw[aC hl.symm]
 |_::_,[],hl,_=>by simp at hl
 |x::xs,y::ys,hl,h0=>by
  rw[T.cmps] at h0;split at h0
  ·rename_i h1;exact absurd h0 h1
  ·rename_i h1;simp only[ne_eq,Decidable.not_not] at h1;rw[T.eq_of_cmp x y h1,T.eq_of_cmps xs ys (by simpa using hl) h0]
end
theorem T.cmp_zero{x y:T}:T.cmp x y=0↔x=y:=⟨T.eq_of_cmp x y,fun h=>by rw[h,T.cmp_self]⟩
mutual
theorem T.cmp_neg:(x y:T)->T.cmp y x= -T.cmp x y
 | .node h ts,.node k us=>by
   by_cases h1:(T.node h ts).size=(T.node k us).size
   ·by_cases h2:(T.node h ts).head=(T.node k us).head
    ·by_cases h3:(T.node h ts).args.length=(T.node k us).args.length
     ·rw[T.cmp_args h1 h2 h3,T.cmp_args h1.symm h2.symm h3.symm];exact T.cmps_neg ts us
     ·rw[T.cmp_len h1 h2 h3,T.cmp_len h1.symm h2.symm (Ne.symm h3)];exact alA _ _
    ·rw[T.cmp_head h1 h2,T.cmp_head h1.symm (Ne.symm h2)];exact alA _ _
   ·rw[T.cmp_size h1,T.cmp_size (Ne.symm h1)];exact alA _ _
theorem T.cmps_neg:(xs ys:List T)->T.cmps ys xs= -T.cmps xs ys
 |[],[]=>by simp[T.cmps]
 |[],_::_=>by simp[T.cmps]
 |_::_,[]=>by simp[T.cmps]
 |x::xs,y::ys=>by
  have h1:=T.cmp_neg x y;have h2:=T.cmps_neg xs ys;rw[T.cmps,T.cmps];by_cases h:T.cmp x y=0
  ·rw[if_neg (by simp;omega),if_neg (by simpa using h)];exact h2
  ·rw[if_pos (by simp;omega),if_pos h];exact h1
end
theorem T.cmp_lt{x y:T}:T.cmp x y<0↔x.size<y.size\/(x.size=y.size/\(x.head<y.head\/(x.head=y.head/\(x.args.length<y.args.length\/(x.args.length=y.args.length/\T.cmps x.args y.args<0))))):=by
 rw[T.cmp_eq];by_cases h1:x.size=y.size
 ·rw[if_neg (by omega)];by_cases h2:x.head=y.head
  ·rw[if_neg (by simpa using h2)];by_cases h3:x.args.length=y.args.length
   ·rw[if_neg (by omega)];constructor
    ·intro h;exact .inr ⟨h1,.inr ⟨h2,.inr ⟨h3,h⟩⟩⟩
    ·rintro(h|⟨_,h|⟨_,h|⟨_,h⟩⟩⟩)
     ·omega
     ·omega
     ·omega
     ·exact h
   ·rw[if_pos (by omega),aoZ];omega
  ·rw[if_pos (by simpa using h2),aoZ];omega
 ·rw[if_pos (by omega),aoZ];omega
theorem T.cmps_lt{x y:T}{xs ys:List T}:T.cmps (x::xs) (y::ys)<0↔T.cmp x y<0\/(x=y/\T.cmps xs ys<0):=by
 rw[T.cmps];by_cases h:T.cmp x y=0
 ·rw[if_neg (by simpa using h)];have:=T.cmp_zero.1 h;constructor
  ·intro hh;exact .inr ⟨this,hh⟩
  ·rintro(hh|⟨_,hh⟩)
   ·omega
   ·exact hh
 ·rw[if_pos h];constructor
  ·intro hh;exact .inl hh
  ·rintro(hh|⟨hh,_⟩)
   ·exact hh
   ·exact absurd (T.cmp_zero.2 hh) h
mutual
theorem T.cmp_trans:(x y z:T)->T.cmp x y<0->T.cmp y z<0->T.cmp x z<0
 | .node h ts,.node k us,.node m vs,h1,h2=>by
   rw[T.cmp_lt] at h1 h2 ⊢;have hl:ts.length=us.length->us.length=vs.length->T.cmps ts us<0->T.cmps us vs<0->T.cmps ts vs<0:=fun e1 e2 q1 q2=>T.cmps_trans ts us vs e1 e2 q1 q2;simp only[T.head,T.args] at h1 h2 ⊢
   rcases h1 with h1|⟨a1,h1|⟨a2,h1|⟨a3,h1⟩⟩⟩<;>rcases h2 with h2|⟨b1,h2|⟨b2,h2|⟨b3,h2⟩⟩⟩<;>(try omega)
theorem T.cmps_trans:(xs ys zs:List T)->xs.length=ys.length->ys.length=zs.length->T.cmps xs ys<0->T.cmps ys zs<0->T.cmps xs zs<0
 |[],_,_,_,_,h1,_=>by simp[T.cmps] at h1
 |_::_,[],_,hl,_,_,_=>by simp at hl
 |_::_,_::_,[],_,hl,_,_=>by simp at hl
 |x::xs,y::ys,z::zs,l1,l2,h1,h2=>by
  rw[T.cmps_lt] at h1 h2 ⊢
  rcases h1 with h1|⟨rfl,h1⟩
  ·rcases h2 with h2|⟨rfl,h2⟩
   ·exact .inl (T.cmp_trans x y z h1 h2)
   ·exact .inl h1
  ·rcases h2 with h2|⟨rfl,h2⟩
   ·exact .inl h2
   ·exact .inr ⟨rfl,T.cmps_trans xs ys zs (by simpa using l1) (by simpa using l2) h1 h2⟩
end
theorem T.cmp_le_trans{x y z:T}(h1:T.cmp x y<=0)(h2:T.cmp y z<=0):T.cmp x z<=0/\((T.cmp x y<0\/T.cmp y z<0)↔T.cmp x z<0):=by
 by_cases e1:T.cmp x y=0
 ·obtain rfl:=T.cmp_zero.1 e1;rw[T.cmp_self] at h1 ⊢;exact⟨h2,by simp⟩
 ·by_cases e2:T.cmp y z=0
  ·obtain rfl:=T.cmp_zero.1 e2;rw[T.cmp_self];exact⟨h1,by simp⟩
  ·have:=T.cmp_trans x y z (by omega) (by omega);exact⟨by omega,by omega⟩
def abL(go:Int×Int)(p:List T×List T):Int×Int:=
 (go.1+((T.sizes p.1:Int)-T.sizes p.2),if go.1+((T.sizes p.1:Int)-T.sizes p.2)≠0 then ord (go.1+((T.sizes p.1:Int)-T.sizes p.2)) 0 else go.2)
def asX(xs ys:List T):Int×Int:=((T.sizes xs:Int)-T.sizes ys,if(T.sizes xs:Int)-T.sizes ys≠0 then ord ((T.sizes xs:Int)-T.sizes ys) 0 else T.cmps xs ys)
theorem ahP{x y:T}(hne:x≠y)(xs ys:List T):abL ((x.size:Int)-y.size,T.cmp x y) (xs,ys)=asX (x::xs) (y::ys):=by
 have h1:(x.size:Int)-y.size+((T.sizes xs:Int)-T.sizes ys)=(T.sizes (x::xs):Int)-T.sizes (y::ys):=by simp[T.sizes];omega
 have h2:T.cmps (x::xs) (y::ys)=T.cmp x y:=by rw[T.cmps,if_pos (fun h=>hne (T.cmp_zero.1 h))]
 simp only[abL,asX,h1,h2]
theorem ao0{x y:T}(h:differ x y):x≠y:=by rintro rfl;exact h.elim (fun h=>h rfl) (fun h=>h rfl)
mutual
theorem arx:(x y:T)->∀s,T.dif x y=some s->∃x0 xs0 y0 ys0 rest,s=(x0::xs0,y0::ys0)::rest/\differ x0 y0/\((xs0,ys0)::rest).foldl abL ((x0.size:Int)-y0.size,T.cmp x0 y0)=asX x.args y.args
 | .node h ts,y,s,hs=>agq ts y.args s (by rw[T.dif] at hs;exact hs)
theorem agq:(xs ys:List T)->∀s,T.difs xs ys=some s->∃x0 xs0 y0 ys0 rest,s=(x0::xs0,y0::ys0)::rest/\differ x0 y0/\((xs0,ys0)::rest).foldl abL ((x0.size:Int)-y0.size,T.cmp x0 y0)=asX xs ys
 |[],_,s,hs=>by simp[T.difs] at hs
 |_::_,[],s,hs=>by simp[T.difs] at hs
 |x::xs,y::ys,s,hs=>by
  rw[T.difs] at hs;by_cases hd:x.head≠y.head\/x.args.length≠y.args.length
  ·rw[if_pos hd] at hs;cases hs;exact⟨x,xs,y,ys,[],rfl,hd,by rw[List.foldl_cons,List.foldl_nil];exact ahP (ao0 hd) xs ys⟩
  ·rw[if_neg hd] at hs;cases h1:T.dif x y with
   |none=>
    rw[h1] at hs;obtain⟨x0,xs0,y0,ys0,rest,e,hd0,hf⟩:=agq xs ys s hs;have hxy:x=y:=T.eq_of_dif x y hd h1;subst hxy;refine⟨x0,xs0,y0,ys0,rest,e,hd0,?_⟩;rw[hf];have e1:(T.sizes (x::xs):Int)-T.sizes (x::ys)=(T.sizes xs:Int)-T.sizes ys:=by simp[T.sizes];omega
    have e2:T.cmps (x::xs) (x::ys)=T.cmps xs ys:=by rw[T.cmps,if_neg (by simp[T.cmp_self])]
    simp only[asX,e1,e2]
   |some s1=>
    rw[h1] at hs;cases hs;obtain⟨x0,xs0,y0,ys0,rest,e,hd0,hf⟩:=arx x y s1 h1;refine⟨x0,xs0,y0,ys0,rest++[(xs,ys)],by rw[e];rfl,hd0,?_⟩;have hne:x≠y:=by rintro rfl;rw[T.dif_self] at h1;cases h1
    have hv:asX x.args y.args=((x.size:Int)-y.size,T.cmp x y):=by
     have e1:(T.sizes x.args:Int)-T.sizes y.args=(x.size:Int)-y.size:=by rw[T.size_eq x,T.size_eq y];omega
     have e2:=T.cmp_eq x y;simp only[not_or,Decidable.not_not,ne_eq] at hd;rw[if_neg (by simpa using hd.1:¬x.head≠y.head),if_neg (by simpa using hd.2:¬x.args.length≠y.args.length)] at e2;simp only[asX,e1,alB,e2];by_cases hz:x.size=y.size
     ·rw[if_neg (by omega),if_neg (by omega)]
     ·rw[if_pos (by omega),if_pos (by omega)]
    rw[show((xs0,ys0)::(rest++[(xs,ys)]))=((xs0,ys0)::rest)++[(xs,ys)] from rfl,List.foldl_append,hf,hv,List.foldl_cons,List.foldl_nil];exact ahP hne xs ys
end
theorem alC{a b:T}{fs:List (List T×List T)}(h:resume [([a],[b])]=some fs):∃x0 xs0 y0 ys0 rest,fs=(x0::xs0,y0::ys0)::rest/\differ x0 y0/\(((xs0,ys0)::rest).foldl abL ((x0.size:Int)-y0.size,T.cmp x0 y0)).2=T.cmp a b:=by
 simp only[resume] at h;cases h1:T.difs [a] [b] with
 |none=>rw[h1] at h;cases h
 |some s=>
  rw[h1] at h;simp at h;subst h;obtain⟨x0,xs0,y0,ys0,rest,e,hd,hf⟩:=agq [a] [b] s h1;refine⟨x0,xs0,y0,ys0,rest,e,hd,?_⟩;rw[hf];have e1:(T.sizes [a]:Int)-T.sizes [b]=(a.size:Int)-b.size:=by simp[T.sizes]
  have e2:T.cmps [a] [b]=T.cmp a b:=by
   rw[T.cmps];by_cases hz:T.cmp a b=0
   ·rw[if_neg (by simpa using hz),hz];simp[T.cmps]
   ·rw[if_pos hz]
  simp only[asX,e1,e2,alB];by_cases hz:a.size=b.size
  ·rw[if_neg (by omega)]
  ·rw[if_pos (by omega),T.cmp_eq,if_pos (by omega)]
def ahQ:List (List T×List T)->Nat
 |[]=>0
 |p::fs=>T.sizes p.1+ahQ fs
def ahR:List (List T×List T)->Nat
 |[]=>0
 |p::fs=>T.sizes p.2+ahR fs
theorem alD(a b:List (List T×List T)):ahQ (a++b)=ahQ a+ahQ b:=by
 induction a with
 |nil=>simp[ahQ]
 |cons p a ih=>simp[ahQ,ih];omega
theorem alE(a b:List (List T×List T)):ahR (a++b)=ahR a+ahR b:=by
 induction a with
 |nil=>simp[ahR]
 |cons p a ih=>simp[ahR,ih];omega
mutual
theorem atK:(x y:T)->∀s,T.dif x y=some s->ahQ s<=T.sizes x.args/\ahR s<=T.sizes y.args
 | .node h ts,y,s,hs=>aiY ts y.args s (by rw[T.dif] at hs;exact hs)
theorem aiY:(xs ys:List T)->∀s,T.difs xs ys=some s->ahQ s<=T.sizes xs/\ahR s<=T.sizes ys
 |[],_,s,hs=>by simp[T.difs] at hs
 |_::_,[],s,hs=>by simp[T.difs] at hs
 |x::xs,y::ys,s,hs=>by
  rw[T.difs] at hs;split at hs
  ·cases hs;simp[ahQ,ahR]
  ·cases h1:T.dif x y with
   |none=>
    rw[h1] at hs;have:=aiY xs ys s hs;simp only[T.sizes];omega
   |some s1=>
    rw[h1] at hs;cases hs;have h2:=atK x y s1 h1;have h3:=T.size_eq x;have h4:=T.size_eq y;simp only[alD,alE,ahQ,ahR,T.sizes];omega
end
theorem anK{a b:T}{fs:List (List T×List T)}(h:resume [([a],[b])]=some fs):ahQ fs<=a.size/\ahR fs<=b.size:=by
 simp only[resume] at h;cases h1:T.difs [a] [b] with
 |none=>rw[h1] at h;cases h
 |some s=>
  rw[h1] at h;simp at h;subst h;have:=aiY [a] [b] s h1;simpa[T.sizes] using this
theorem akf{x y:T}(h:differ x y):avj (ord ((x.size:Int)-y.size) 0) (ord x.head y.head) (ord x.args.length y.args.length)=T.cmp x y:=by
 rw[alB];by_cases h1:x.size=y.size
 ·have z1:ord (x.size:Int) y.size=0:=by rw[ac1];omega
  by_cases h2:x.head=y.head
  ·have z2:ord x.head y.head=0:=by rw[ac1];exact h2
   rw[T.cmp_len h1 h2 (h.resolve_left (fun h=>h h2)),z1,z2];rfl
  ·have z2:ord x.head y.head≠0:=fun e=>h2 (ac1.1 e);rw[T.cmp_head h1 h2,z1,avj,if_neg (by simp),if_pos z2]
 ·have z1:ord (x.size:Int) y.size≠0:=fun e=>h1 (by have:=ac1.1 e;omega);rw[T.cmp_size h1,avj,if_pos z1]
end Go.Proofs.YtabfapijgfjflaaGreat
namespace Go.Proofs
open Go.Shelf
def Tryz.sortT_ren : Go.Shelf.Ren := ⟨fun | 6 => 241 | 15 => 189 | 14 => 249 | 28 => 219 | 29 => 220 | 20 => 252 | 21 => 253 | 22 => 254 | 23 => 255 | 24 => 256 | 25 => 257 | 26 => 258 | 27 => 259 | 46 => 260 | 47 => 228 | 48 => 229 | 49 => 261 | 50 => 262 | 57 => 263 | n => n, fun | 22 => 58 | 24 => 60 | 25 => 156 | 3 => 3 | 39 => 224 | 0 => 0 | 53 => 254 | 55 => 256 | 4 => 4 | 46 => 248 | 45 => 247 | 50 => 164 | 5 => 5 | 9 => 9 | 66 => 264 | 70 => 268 | 76 => 273 | 77 => 274 | n => n, fun | n => n⟩
theorem Tryz.sortT : Go.Proofs.SlLaysF0.n6 Tryz.prog Tryz.sortT_ren := {
  mixed := by kernel_rfl
  f6 := ⟨Tryz.f241.name, by decide, Tryz.func241.trans (congrArg some (by kernel_rfl))⟩
  f14 := ⟨Tryz.f249.name, by decide, Tryz.func249.trans (congrArg some (by kernel_rfl))⟩
  f15 := Tryz.func189.trans (congrArg some (by kernel_rfl))
  f20 := ⟨Tryz.f252.name, by decide, Tryz.func252.trans (congrArg some (by kernel_rfl))⟩
  f21 := ⟨Tryz.f253.name, by decide, Tryz.func253.trans (congrArg some (by kernel_rfl))⟩
  f22 := ⟨Tryz.f254.name, by decide, Tryz.func254.trans (congrArg some (by kernel_rfl))⟩
  f23 := ⟨Tryz.f255.name, by decide, Tryz.func255.trans (congrArg some (by kernel_rfl))⟩
  f24 := ⟨Tryz.f256.name, by decide, Tryz.func256.trans (congrArg some (by kernel_rfl))⟩
  f25 := ⟨Tryz.f257.name, by decide, Tryz.func257.trans (congrArg some (by kernel_rfl))⟩
  f26 := ⟨Tryz.f258.name, by decide, Tryz.func258.trans (congrArg some (by kernel_rfl))⟩
  f27 := ⟨Tryz.f259.name, by decide, Tryz.func259.trans (congrArg some (by kernel_rfl))⟩
  f28 := Tryz.func219.trans (congrArg some (by kernel_rfl))
  f29 := Tryz.func220.trans (congrArg some (by kernel_rfl))
  f46 := ⟨Tryz.f260.name, by decide, Tryz.func260.trans (congrArg some (by kernel_rfl))⟩
  f47 := Tryz.func228.trans (congrArg some (by kernel_rfl))
  f48 := Tryz.func229.trans (congrArg some (by kernel_rfl))
  f49 := ⟨Tryz.f261.name, by decide, Tryz.func261.trans (congrArg some (by kernel_rfl))⟩
  f50 := ⟨Tryz.f262.name, by decide, Tryz.func262.trans (congrArg some (by kernel_rfl))⟩
  f57 := ⟨Tryz.f263.name, by decide, Tryz.func263.trans (congrArg some (by kernel_rfl))⟩
  t0 := Tryz.underlying0
  a0 := Tryz.isAgg0
  z0 := Tryz.sizeOf0
  v0 := Tryz.zeroValue0
  t3 := Tryz.underlying3
  a3 := Tryz.isAgg3
  z3 := Tryz.sizeOf3
  v3 := Tryz.zeroValue3
  t4 := Tryz.underlying4
  a4 := Tryz.isAgg4
  z4 := Tryz.sizeOf4
  v4 := Tryz.zeroValue4
  t5 := Tryz.underlying5
  a5 := Tryz.isAgg5
  z5 := Tryz.sizeOf5
  v5 := Tryz.zeroValue5
  t9 := Tryz.underlying9
  a9 := Tryz.isAgg9
  z9 := Tryz.sizeOf9
  v9 := Tryz.zeroValue9
  t22 := Tryz.underlying58
  a22 := Tryz.isAgg58
  z22 := Tryz.sizeOf58
  v22 := Tryz.zeroValue58
  t25 := Tryz.underlying156
  a25 := Tryz.isAgg156
  z25 := Tryz.sizeOf156
  v25 := Tryz.zeroValue156
  t39 := Tryz.underlying224
  a39 := Tryz.isAgg224
  z39 := Tryz.sizeOf224
  v39 := Tryz.zeroValue224
  t45 := Tryz.underlying247
  a45 := Tryz.isAgg247
  z45 := Tryz.sizeOf247
  v45 := Tryz.zeroValue247
  t46 := Tryz.underlying248
  a46 := Tryz.isAgg248
  z46 := Tryz.sizeOf248
  v46 := Tryz.zeroValue248
  t50 := Tryz.underlying164
  a50 := Tryz.isAgg164
  z50 := Tryz.sizeOf164
  v50 := Tryz.zeroValue164
  t53 := Tryz.underlying254
  a53 := Tryz.isAgg254
  z53 := Tryz.sizeOf254
  v53 := Tryz.zeroValue254
  t55 := Tryz.underlying256
  a55 := Tryz.isAgg256
  z55 := Tryz.sizeOf256
  v55 := Tryz.zeroValue256
  t66 := Tryz.underlying264
  a66 := Tryz.isAgg264
  z66 := Tryz.sizeOf264
  v66 := Tryz.zeroValue264
  t70 := Tryz.underlying268
  a70 := Tryz.isAgg268
  z70 := Tryz.sizeOf268
  v70 := Tryz.zeroValue268
  t76 := Tryz.underlying273
  a76 := Tryz.isAgg273
  z76 := Tryz.sizeOf273
  v76 := Tryz.zeroValue273
  t77 := Tryz.underlying274
  a77 := Tryz.isAgg274
  z77 := Tryz.sizeOf274
  v77 := Tryz.zeroValue274 }
end Go.Proofs
namespace Go.Proofs.YtabfapijgfjflaaGreat
open Go.RowKit
theorem atL{W w':World}(h:Below W.heap.size W w')(hd:W.drawn<=w'.drawn):∃q os,w'=Go.Sort.grow (W.drewN q) os:=by
 refine⟨w'.drawn-W.drawn,w'.heap.extract W.heap.size w'.heap.size,?_⟩;obtain⟨h1,h2,h3,h4,h5⟩:=h
 have hh:w'.heap=W.heap++w'.heap.extract W.heap.size w'.heap.size:=by
  apply Array.ext_getElem?;intro i;by_cases hi:i<W.heap.size
  ·rw[Array.getElem?_append_left hi];exact h5 i hi
  ·rw[Array.getElem?_append_right (by omega),Array.getElem?_extract];split
   ·congr 1;omega
   ·rw[Array.getElem?_eq_none (by omega)]
 cases w' with
 |mk a b c d e=>
  simp only[Go.Sort.grow,World.drewN];dsimp only at h1 h2 h3 h4 hh hd;rw[←hh,h1,h2,h3,Nat.add_sub_cancel' hd]
theorem alF(w:World):Calls Tryz.prog 220 #[.int .u64 0] w fun e w'=>e= .returned (.int .i64 0)/\w'=w:=by
 go_enter Tryz.func220,Tryz.ntmps220;go_wp2;go_ret;exact⟨by kernel_rfl,rfl⟩
theorem ao1(w:World):Calls Tryz.prog 189 #[.int .u64 0] w fun e w'=>e= .returned (.int .i64 0)/\w'=w:=by
 go_enter Tryz.func189,Tryz.ntmps189
 go_wp2_with fail
 refine(alF w).mono ?_;rintro e w' ⟨rfl,rfl⟩;go_wp2;go_ret;exact⟨rfl,rfl⟩
theorem ao2(p:Option Addr)(cap:Nat)(fv:Value)(w:World):Calls Tryz.prog 252 #[.slice p 0 cap,.int .i64 0,.int .i64 0,fv] w fun e w'=>e= .returned (.tuple #[])/\w'=w:=by
 go_enter Tryz.func252,Tryz.ntmps252;go_wp2;refine wp_loop_rounds 1 ?_;rw[rounds_succ];go_wp2
 go_end0
 exact⟨rfl,rfl⟩
theorem ao3(p:Option Addr)(cap:Nat)(fv:Value)(w:World):Calls Tryz.prog 249 #[.slice p 0 cap,.int .i64 0,.int .i64 0,.int .i64 0,fv] w fun e w'=>e= .returned (.tuple #[])/\w'=w:=by
 go_enter Tryz.func249,Tryz.ntmps249;go_wp2;refine wp_loop_rounds 1 ?_;rw[rounds_succ]
 go_wp2_with fail
 refine(ao2 p cap fv _).mono ?_;rintro e w' ⟨rfl,rfl⟩;go_wp2
 (try simp only[Exit.inBlock,Exit.then])
 refine bodyPost_ret (v:= .tuple #[]) (by simp[results,Tryz.results249,go_sem]) rfl ?_;exact⟨rfl,rfl⟩
theorem ahS(p:Option Addr)(cap:Nat)(fv:Value)(w:World):Calls Tryz.prog 241 #[.slice p 0 cap,fv] w fun e w'=>e= .returned (.tuple #[])/\w'=w:=by
 go_enter Tryz.func241,Tryz.ntmps241
 go_wp2_with fail
 refine(ao1 _).mono ?_;rintro e w' ⟨rfl,rfl⟩
 go_wp2_with fail
 refine(ao3 p cap fv _).mono ?_;rintro e w' ⟨rfl,rfl⟩;go_wp2;refine bodyPost_end (v:= .tuple #[]) (by simp[results,Tryz.results241,go_sem]) rfl ?_;exact⟨rfl,rfl⟩
def axj(f:Nat)(cf:T->T->Int)(aM:Nat)(w:World)(ts:List T):Prop:=
 ∀(x y:T) (a:Option Addr) (c:Nat) (a':Option Addr) (c':Nat) (W:World),x∈ts->y∈ts->Below aM w W->(Lit.int .i64 x.head).wf=true->(Lit.int .i64 y.head).wf=true->aab aM W x.args a c->aab aM W y.args a' c'->
  Calls Tryz.prog f #[tm x.head a x.args.length c,tm y.head a' y.args.length c'] W fun e w'=>e= .returned (.int .i64 (cf x y))/\Below W.heap.size W w'
structure El (aM:Nat) (w:World) (ts:List T) where
 t:T
 a:Option Addr
 c:Nat
 mem:t∈ts
 wf:(Lit.int .i64 t.head).wf=true
 args:aab aM w t.args a c
def El.enc{aM:Nat}{w:World}{ts:List T}(x:El aM w ts):List Value:=[.int .i64 x.t.head,.slice x.a x.t.args.length x.c]
theorem asY{aM:Nat}{w:World}{g:Nat}(all:List T):∀(ts:List T) (o:Nat),(∀t∈ts,t∈all)->aar aM w ts g o->∃d:List (El aM w all),d.map El.t=ts/\∀(j:Nat) (x:El aM w all),d[j]? =some x->w.cell? ⟨g,o+j*2,none⟩=some (.int .i64 x.t.head)/\w.cell? ⟨g,o+j*2+1,none⟩=some (.slice x.a x.t.args.length x.c)
 |[],o,_,_=>⟨[],rfl,by simp⟩
 |t::ts,o,hm,h=>by
  simp only[aar] at h;obtain⟨ht,hr⟩:=h;obtain⟨d,h1,h2⟩:=asY all ts (o+2) (fun s hs=>hm s (aH _ hs)) hr;obtain⟨wf,p1,a,c,p2,hA⟩:=aaO.1 ht;refine⟨⟨t,a,c,hm t (List.mem_cons_self ..),wf,hA⟩::d,by simp[h1],fun j x hj=> ?_⟩;cases j with
  |zero=>simp at hj;subst hj;simpa using⟨p1,p2⟩
  |succ j=>
   have:=h2 j x (by simpa using hj);rw[show o+2+j*2=o+(j+1)*2 from by omega] at this;exact this
theorem ahT{aM:Nat}{w w':World}{g:Nat}{all:List T}(hb:Below aM w w'):∀(d:List (El aM w all)) (o:Nat),(∀(j:Nat) (x:El aM w all),d[j]? =some x->w'.cell? ⟨g,o+j*2,none⟩=some (.int .i64 x.t.head)/\w'.cell? ⟨g,o+j*2+1,none⟩=some (.slice x.a x.t.args.length x.c))->aar aM w' (d.map El.t) g o
 |[],o,_=>trivial
 |x::d,o,h=>by
  obtain⟨h1,h2⟩:=h 0 x rfl;simp only[List.map_cons,aar];refine⟨aaO.2 ⟨x.wf,by simpa using h1,x.a,x.c,by simpa using h2,x.args.below hb⟩,ahT hb d (o+2) (fun j y hj=> ?_)⟩;have:=h (j+1) y (by simpa using hj);rw[show o+(j+1)*2=o+2+j*2 from by omega] at this;exact this
theorem ao4(f:Nat)(eg:∀args w,(callFunc f args).run Tryz.prog w= .ok (.enter f args) w)(cf:T->T->Int)(hO:∀{α:Type} (k:α->T),Go.Sort.SWO (Go.Proofs.ltOf fun x y=>cf (k x) (k y)))(ts:List T)(hts:ts.length<=1000000000000)
 (aM g cap:Nat) (w:World) (hn:aM<=g) (hg:g<w.heap.size) (hR:aar aM w ts g 0) (hfr:∀j,j<ts.length*2->w.frozen? ⟨g,j,none⟩=false) (hC:axj f cf aM w ts):
 Calls Tryz.prog 241 #[.slice (some ⟨g,0,none⟩) ts.length cap,.func (.func f) #[] #[]] w fun e w'=>
  e= .returned (.tuple #[])/\∃us,us.Perm ts/\us.Pairwise (fun x y=>0<=cf y x)/\aar aM w' us g 0/\w.grownBy w' (some g):=by
 cases hne:ts with
 |nil=>
  subst hne;refine(ahS (some ⟨g,0,none⟩) cap _ w).mono ?_;rintro e w' ⟨rfl,rfl⟩;exact⟨rfl,[],List.Perm.refl _,List.Pairwise.nil,trivial,⟨rfl,rfl,rfl,af _,fun _ _ _=>rfl⟩⟩
 |cons t0 ts0=>
  rw[←hne];obtain⟨d,hd1,hd2⟩:=asY ts ts 0 (fun _ h=>h) hR;have hdl:d.length=ts.length:=by have:=congrArg List.length hd1;simpa using this
  have x0:El aM w ts:=d[0]'(by rw[hdl,hne];simp)
  haveI:Inhabited (El aM w ts):=⟨x0⟩
  have henc:∀(x:El aM w ts),x.enc.length=2:=fun _=>rfl
  have h1:∀(x:El aM w ts),∀v∈x.enc,v.oneCell'=true:=fun x v hv=>by
   simp only[El.enc,List.mem_cons,List.not_mem_nil,or_false] at hv
   rcases hv with rfl|rfl<;>rfl
  have hH:Go.Sort.HoldsK (El.enc) 2 w g 0 d.toArray:=by
   intro j hj;rw[Go.Sort.size_flatK] at hj;rw[Go.Sort.get_flatK _ _ _ _ hj,Nat.zero_add];have hj2:j<d.length*2:=by simpa using hj
   have hi:j/2<d.length:=by omega
   have hx:d.toArray[j/2]! =d[j/2]:=by simp[hi]
   obtain⟨c0,c1⟩:=hd2 (j/2) d[j/2] (ai hi);refine⟨?_,hfr j (by omega)⟩;obtain⟨x,hxx⟩:∃x,d[j/2]=x:=⟨_,rfl⟩;rw[hxx] at hx c0 c1;rw[hx];clear hxx
   rcases Nat.mod_two_eq_zero_or_one j with h|h
   ·rw[h,show j=0+j/2*2 from by omega];simpa[El.enc] using c0
   ·rw[h,show j=0+j/2*2+1 from by omega];simpa[El.enc] using c1
  have hW:∀(m:Nat) (os:Array Obj) (dk:Array (El aM w ts)),Below aM w (Go.Proofs.sortWorldK El.enc 2 w g 0 m dk os):=fun m os dk=>by
   refine⟨rfl,rfl,rfl,Go.Proofs.size_sortWorldK_c El.enc 2 w g 0 m dk os,fun k hk=> ?_⟩;unfold Go.Proofs.sortWorldK;rw[Go.Sort.heap_grow_old _ _ (by rw[Go.Sort.size_putRowK];show k<w.heap.size;omega)];unfold Go.Sort.putRowK Go.Sort.putRow Go.Sort.mapBlock;simp only[Array.getElem?_modify];rw[if_neg (by omega)];rfl
  have hcmp:Go.Proofs.CmpLays Tryz.prog f #[] El.enc 2 (fun x y:El aM w ts=>cf x.t y.t) g 0 d.toArray.size w:=by
   intro m os dk hs x y;refine(Calls.drawn (hC x.t y.t x.a x.c y.a y.c _ x.mem y.mem (hW m os dk) x.wf y.wf (x.args.below (hW m os dk)) (y.args.below (hW m os dk)))).mono ?_;rintro e w' ⟨⟨rfl,hb⟩,hd⟩
   rcases hd with hd|hd
   ·cases hd
   ·exact⟨rfl,atL hb hd⟩
  have h:=AnyQ.slices_SortFunc Tryz.sortT 2 Tryz.isAgg60 Tryz.sizeOf60 El.enc henc h1 (fun x y:El aM w ts=>cf x.t y.t) (hO El.t) f #[] g 0 cap d.toArray w eg hcmp hH hg (by simp;omega);rw[show d.toArray.size=ts.length from by simpa using hdl] at h;refine h.mono ?_;rintro e w' ⟨rfl,d',n,os,hp,hs,rfl⟩;obtain⟨hp1,_,hp3⟩:=hp;have hsz:d'.size=ts.length:=by rw[hp1];simpa using hdl
  have e1:d'.extract 0 ts.length=d':=by rw[←hsz];simp
  have e2:d.toArray.extract 0 ts.length=d.toArray:=by rw[←hdl];simp
  have hH':=Go.Proofs.holdsK_sortWorldK_c El.enc 2 w g 0 d.toArray d' n os hH hg (by rw[hsz];simp[hdl]);refine⟨rfl,d'.toList.map El.t,?_,?_,?_,?_⟩
  ·rw[e1,e2] at hp3;exact(hp3.map El.t).trans (List.Perm.of_eq (by simpa using hd1))
  ·rw[List.pairwise_map,List.pairwise_iff_getElem];intro i j hi hj hij;have hj':j<d'.size:=by simpa using hj
   have hi':i<d'.size:=by simpa using hi
   have:=hs i j (Nat.zero_le _) hij (by omega);unfold Go.Proofs.ltOf at this;rw[decide_eq_false_iff_not] at this;simp only[hj',hi',getElem!_pos] at this;simp only[Array.getElem_toList];omega
  ·refine ahT (hW n os d') d'.toList 0 (fun j x hj=> ?_);obtain⟨hjl,hje⟩:=ah.1 hj;have hj':j<d'.size:=by simpa using hjl
   have hx:d'[j]! =x:=by rw[←hje];simp[hj']
   have q0:=(hH'.cell (i:=j) (c:=0) hj' (by omega)).1;have q1:=(hH'.cell (i:=j) (c:=1) hj' (by omega)).1;rw[hx] at q0 q1;exact⟨by simpa[El.enc] using q0,by simpa[El.enc] using q1⟩
  ·refine⟨rfl,rfl,rfl,Go.Proofs.size_sortWorldK_c El.enc 2 w g 0 n d' os,fun k hk hkg=> ?_⟩;unfold Go.Proofs.sortWorldK;rw[Go.Sort.heap_grow_old _ _ (by rw[Go.Sort.size_putRowK];exact hk)];unfold Go.Sort.putRowK Go.Sort.putRow Go.Sort.mapBlock;simp only[Array.getElem?_modify];rw[if_neg (fun e=>hkg (by rw[e]))];rfl
open Go.Shelf
attribute [local go_sem] Oper.semAt_some
theorem aiZ(t:T)(ht:t.size<=1000000000000)(aM:Nat)(a:Option Addr)(c:Nat)(w:World)(hn:aM<=w.heap.size)(hwf:(Lit.int .i64 t.head).wf=true)(hA:aab aM w t.args a c):
 Calls Tryz.prog 243 #[tm t.head a t.args.length c] w fun e w'=>e= .returned (.int .i64 (t.size:Nat))/\Below w.heap.size w w':=by
 have HA:=ae (hA.mono hn);clear hA hn aM;refine(callsIn_wide (n:=9)).1 ?_;refine callsIn_of_wp_marks Tryz.func243 rfl trivial ?_ rfl;simp only[Tryz.ntmps243,List.size_toArray,List.length_cons,List.length_nil,Nat.reduceAdd,Nat.reduceSub,Array.replicate_succ,Array.replicate_zero,List.push_toArray,List.append_toArray,List.nil_append,List.cons_append]
 gi_wp2_with (refine⟨trivial,?_⟩;gi_at_call 141;refine(callsIn_wide.2 (afm _ _ _ _ _)).mono ?_;rintro e w' ⟨rfl,rfl⟩)
 have hB3:Below w.heap.size w (((w.alloc (aaa t.head a t.args.length c)).alloc (.cells #[.int .i64 0] 3)).alloc (aaa t.head a t.args.length c)):=(((ag _ w).alloc (af _) _).alloc (by simp) _).alloc (by simp;omega) _;have f1:(((w.alloc (aaa t.head a t.args.length c)).alloc (.cells #[.int .i64 0] 3)).alloc (aaa t.head a t.args.length c)).cell? ⟨w.heap.size+1,0,none⟩=some (.int .i64 0):=by simp[go_sem]
 have f2:(((w.alloc (aaa t.head a t.args.length c)).alloc (.cells #[.int .i64 0] 3)).alloc (aaa t.head a t.args.length c)).frozen? ⟨w.heap.size+1,0,none⟩=false:=by simp[go_sem]
 have f3:(((w.alloc (aaa t.head a t.args.length c)).alloc (.cells #[.int .i64 0] 3)).alloc (aaa t.head a t.args.length c)).cell? ⟨w.heap.size+1+1,0,none⟩=some (.int .i64 t.head):=by simp[go_sem]
 have f4:(((w.alloc (aaa t.head a t.args.length c)).alloc (.cells #[.int .i64 0] 3)).alloc (aaa t.head a t.args.length c)).cell? ⟨w.heap.size+1+1,1,none⟩=some (.slice a t.args.length c):=by simp[go_sem]
 have hs:(((w.alloc (aaa t.head a t.args.length c)).alloc (.cells #[.int .i64 0] 3)).alloc (aaa t.head a t.args.length c)).heap.size=w.heap.size+3:=by simp
 generalize (((w.alloc (aaa t.head a t.args.length c)).alloc (.cells #[.int .i64 0] 3)).alloc (aaa t.head a t.args.length c))=W3 at*
 refine af3 rfl (by omega) (gf:=178) (lb:=#[.pointer (some ⟨w.heap.size+1+1,0,none⟩)]) rfl trivial (enters_of Tryz.func178 (by kernel_rfl) rfl)
  (afn Fence.wide 8 trivial rfl (by omega) t ht (w.heap.size+1+1) w.heap.size a c W3 (by omega) (by omega) hwf f3 f4 (HA.out.below hB3)) (ag _ _) (by omega) (fun _ _ _ _ h=>h.size) (fun _ _ _ _ _ h hb=>h.below hb)
  (fun pre W=>W.cell? ⟨w.heap.size+1,0,none⟩=some (.int .i64 (pre.length:Nat))/\W.frozen? ⟨w.heap.size+1,0,none⟩=false/\Below w.heap.size w W)
  (fun _ _ _=>False)
  (fun pre X Y h hb=>⟨(hb.cell (p:=⟨w.heap.size+1,0,none⟩) (by simp;omega)).trans h.1,(hb.frozen (p:=⟨w.heap.size+1,0,none⟩) (by simp;omega)).trans h.2.1,h.2.2.trans (hb.mono (by omega))⟩)
  (fun _ _ _ _ h _=>h)
  ⟨f1,f2,hB3⟩
  (fun _ _ a' _=>∃u v,a'={ tmps:=#[tm t.head a t.args.length c,Value.pointer (some ⟨w.heap.size,0,none⟩),Value.int IntKind.i64 0,Value.pointer (some ⟨w.heap.size+1,0,none⟩),Value.agg #[Value.int IntKind.i64 t.head,Value.slice a t.args.length c],Value.func (Fn.func 178) #[] #[Value.pointer (some ⟨w.heap.size+1+1,0,none⟩)],u,v,undef,undef,undef],defers:=[]})
  (fun _ _ _ _ _ _ _ _ _ _ h=>h) ?assign ?body ?done ?stop
 case assign=>
  rintro l pre x vs W K hsz hi ⟨_,_,a1,c1,rfl,_⟩ hK
  gi_wp2
  exact hK _ _ (Kept.refl _ _ _) hi ⟨.int .i64 x.1,tm x.2.head a1 x.2.args.length c1,by simp⟩
 case body=>
  rintro l pre x vs a' W hsz ⟨hc,hf,hb⟩ hm ⟨u,v,rfl⟩;have hlen:pre.length<t.size:=hm.length;clear hm
  gi_wp2
  refine⟨(Kept.refl _ _ _).setCell (p:=⟨w.heap.size+1,0,none⟩) (by simp) (.inl (by simp;omega)) _,?_,?_,hb.setCell (p:=⟨w.heap.size+1,0,none⟩) (by simp) _⟩
  ·rw[World.cell?_setCell_same' _ _ _ (by rw[hc];rfl)];simp
  ·rw[World.frozen?_setCell];exact hf
 case done=>
  rintro D xs W hD rfl ⟨hc,hf,hb⟩ hK
  gi_wp2
  refine⟨by simp,.inl ⟨_,_,rfl,run_takeDeferred hK,?_⟩⟩;refine⟨_,results_tmp rfl _ _ _,by rw[T.subs_length];rfl,hb.trans (aaw _ hK (by omega))⟩
 case stop=>
  rintro D c pre W _ _ h _;exact h.elim
end Go.Proofs.YtabfapijgfjflaaGreat
