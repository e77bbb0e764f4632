import Derived.Test.YtabfapijgfjflaaGreatMQBy
import Derived.Test.YtabfapijgfjflaaGreatMQBk
import Derived.Test.YtabfapijgfjflaaGreatMQBp
import Derived.Test.YtabfapijgfjflaaGreatMQBa
import Derived.ChangeSlices
import Derived.Test.YtabfapijgfjflaaGreatMQBw
import Derived.Deep.RegionLaw
import Derived.Deep.RegionHeld3
import Derived.BigRegion
import Derived.Test.YtabfapijgfjflaaGreatMAl
set_option linter.unusedVariables false
set_option linter.unusedSimpArgs false
set_option maxRecDepth 100000
set_option maxHeartbeats 4000000
namespace Go.Proofs.YtabfapijgfjflaaGreat
open Go.ChangeShapes Go.WideShapes Go.ChangeAt Go.RowKit Go.Joins
theorem am7:Tryz.prog.cellsOf 62=5:=by kernel_rfl
section
variable {H:Type} {enc:TypeId×Value->H} {w:World} {sp:Nat->Bool} {hd:Bool}
theorem asq{n:Nat}{cs:List Value}{x:DataW H×List MemPlace}(h:DataW.trod enc Tryz.prog w 0 sp hd n 62 cs=some x):
 ∃y:LV,cs=[.bool y.n,.int .i64 y.l.head,.slice y.pa y.l.args.length y.ca,.int .i64 y.r.head,.slice y.pb y.r.args.length y.cb]/\aa1 w.heap.size w y:=by
 obtain⟨xs,m,hm,_,hl,hxs,hf⟩:=DataW.trod_struct Tryz.underlying62 h;rw[am7] at hl
 match cs,hl with
 |[c0,c1,c2,c3,c4],_=>
  match xs,hxs with
  |[y0,y1,y2],_=>
   have h0:=hf 0 _ rfl;have h1:=hf 1 _ rfl;have h2:=hf 2 _ rfl;simp[akU,ag6] at h0 h1 h2;obtain⟨k,e0,_⟩:=DataW.trod_bool Tryz.underlying4 h0;obtain⟨t,a,c,e1,wf1,hA⟩:=(aiu _).1 h1;obtain⟨u,b,d,e2,wf2,hB⟩:=(aiu _).1 h2;simp at e0 e1 e2;obtain⟨rfl,rfl⟩:=e1;obtain⟨rfl,rfl⟩:=e2;subst e0;exact⟨⟨k,t,u,a,c,b,d⟩,rfl,wf1,wf2,hA,hB⟩
end
section
variable {H:Type} {enc:TypeId×Value->H} {w:World} {sp:Nat->Bool} {hd:Bool}
theorem aut{n:Nat}{cs:List Value}{x:DataW H×List MemPlace}(h:DataW.trod enc Tryz.prog w 0 sp hd n 23 cs=some x):∃(P:List LV) (a:Option Addr) (c:Nat),cs=[.slice a P.length c]/\aaV w.heap.size w P a c:=by
 rcases DataW.trod_slice Tryz.underlying23 h with⟨rfl,_⟩|⟨a,len,cap,elems,rest,m,hm,rfl,_,_,hlc,hcm,hel,hcell,_,_⟩
 ·exact⟨[],none,0,rfl,⟨af _,by simp[maxLen],.inl rfl⟩⟩
 ·cases len with
  |zero=>exact⟨[],some a,cap,rfl,⟨hlc,hcm,.inl rfl⟩⟩
  |succ len=>
   have each:∀i,i<len+1->∃y:LV,aa1 w.heap.size w y/\w.cell? ((a.add (i*5)).add 0)=some (.bool y.n)/\w.cell? ((a.add (i*5)).add 1)=some (.int .i64 y.l.head)/\w.cell? ((a.add (i*5)).add 2)=some (.slice y.pa y.l.args.length y.ca)/\w.cell? ((a.add (i*5)).add 3)=some (.int .i64 y.r.head)/\w.cell? ((a.add (i*5)).add 4)=some (.slice y.pb y.r.args.length y.cb):=by
    intro i hi;have h1:=hcell i hi;rw[ai (by omega),am7,Option.bind_eq_some_iff] at h1;obtain⟨cs,hcs,ht⟩:=h1;obtain⟨y,rfl,hy⟩:=asq ht;refine⟨y,hy,?_,?_,?_,?_,?_⟩
    ·exact mapM_some_get (by simpa[World.cells?] using hcs) 0 0 rfl
    ·exact mapM_some_get (by simpa[World.cells?] using hcs) 1 1 rfl
    ·exact mapM_some_get (by simpa[World.cells?] using hcs) 2 2 rfl
    ·exact mapM_some_get (by simpa[World.cells?] using hcs) 3 3 rfl
    ·exact mapM_some_get (by simpa[World.cells?] using hcs) 4 4 rfl
   obtain⟨b,o,spot⟩:=a
   have hspot:spot=none:=by
    obtain⟨y,_,h1,_⟩:=each 0 (by omega);cases spot with
    |none=>rfl
    |some k=>unfold World.cell? at h1;simp[Addr.add] at h1;split at h1<;>simp at h1
   subst hspot;simp only[aeG,Nat.add_zero] at each
   have hlt:b<w.heap.size:=by
    obtain⟨y,_,h1,_⟩:=each 0 (by omega);exact acO h1
   have adn:∀(n o:Nat),(∀i,i<n->∃y:LV,At5 w b (o+i*5) y/\aa1 w.heap.size w y)->∃P:List LV,P.length=n/\∀(j:Nat) (y:LV),P[j]? =some y->At5 w b (o+j*5) y/\aa1 w.heap.size w y:=by
    intro n
    induction n with
    |zero=>intro o _;exact⟨[],rfl,by simp⟩
    |succ n ih=>
     intro o h;obtain⟨z,hz⟩:=h 0 (by omega)
     obtain⟨zs,hl,hr⟩:=ih (o+5) (fun i hi=>by
      obtain⟨y,hy⟩:=h (i+1) (by omega);exact⟨y,by rw[show o+5+i*5=o+(i+1)*5 from by omega];exact hy⟩)
     refine⟨z::zs,by simp[hl],fun j y hj=> ?_⟩;cases j with
     |zero=>simp at hj;subst hj;simpa using hz
     |succ j=>rw[show o+(j+1)*5=o+5+j*5 from by omega];exact hr j y (by simpa using hj)
   obtain⟨P,hl,hr⟩:=adn (len+1) o (fun i hi=>by
    obtain⟨y,h0,h1,h2,h3,h4,h5⟩:=each i hi;exact⟨y,⟨h1,h2,h3,h4,h5⟩,h0⟩)
   exact⟨P,some ⟨b,o,none⟩,cap,by rw[hl],⟨by omega,hcm,.inr ⟨b,o,rfl,hlt,hr⟩⟩⟩
theorem aqh{r:Reach}{b0:Nat}{v:Value}{d:DataW H}{p:List MemPlace}(hv:Value.okWide Tryz.prog w r b0 23 v)(h:DataW.Trod enc Tryz.prog w 0 sp hd 23 v d p):
 ∃(P:List LV) (a:Option Addr) (c:Nat),v= .slice a P.length c/\aaV w.heap.size w P a c:=by
 obtain⟨a,len,cap,rfl⟩:=okWide_slice Tryz.underlying23 hv;obtain⟨n,hn⟩:=h;obtain⟨P,a',c,e,hA⟩:=aut hn;simp[Value.cells] at e;obtain⟨rfl,rfl,rfl⟩:=e;exact⟨P,a,cap,rfl,hA⟩
end
section
variable {H:Type} {enc:TypeId×Value->H} {w:World} {sp:Nat->Bool} {hd:Bool}
theorem auu{n:Nat}{cs:List Value}{x:DataW H×List MemPlace}(h:DataW.trod enc Tryz.prog w 0 sp hd n 41 cs=some x):∃(zs:List Int) (a:Option Addr) (c:Nat),cs=[.slice a zs.length c]/\acP w.heap.size w zs a c:=by
 rcases DataW.trod_slice Tryz.underlying41 h with⟨rfl,_⟩|⟨a,len,cap,elems,rest,m,hm,rfl,_,_,hlc,hcm,hel,hcell,_,_⟩
 ·exact⟨[],none,0,rfl,⟨af _,by simp[maxLen],.inl rfl⟩⟩
 ·cases len with
  |zero=>exact⟨[],some a,cap,rfl,⟨hlc,hcm,.inl rfl⟩⟩
  |succ len=>
   have each:∀i,i<len+1->∃z:Int,w.cell? ((a.add (i*1)).add 0)=some (.int .i64 z):=by
    intro i hi;have h1:=hcell i hi;rw[ai (by omega),afU,Option.bind_eq_some_iff] at h1;obtain⟨cs,hcs,ht⟩:=h1;obtain⟨k,e0,_,_⟩:=DataW.trod_int Tryz.underlying3 ht;subst e0;refine⟨k,?_⟩;simp[World.cells?,Option.bind_eq_some_iff] at hcs;simpa using hcs
   obtain⟨b,o,spot⟩:=a
   have hspot:spot=none:=by
    obtain⟨z,h1⟩:=each 0 (by omega);cases spot with
    |none=>rfl
    |some k=>unfold World.cell? at h1;simp[Addr.add] at h1;split at h1<;>simp at h1
   subst hspot;simp only[aeG,Nat.add_zero,Nat.mul_one] at each
   have hlt:b<w.heap.size:=by
    obtain⟨z,h1⟩:=each 0 (by omega);exact acO h1
   have adn:∀(n o:Nat),(∀i,i<n->∃z:Int,w.cell? ⟨b,o+i,none⟩=some (.int .i64 z))->∃zs:List Int,zs.length=n/\∀(j:Nat) (z:Int),zs[j]? =some z->w.cell? ⟨b,o+j,none⟩=some (.int .i64 z):=by
    intro n
    induction n with
    |zero=>intro o _;exact⟨[],rfl,by simp⟩
    |succ n ih=>
     intro o h;obtain⟨z,hz⟩:=h 0 (by omega)
     obtain⟨zs,hl,hr⟩:=ih (o+1) (fun i hi=>by
      obtain⟨y,hy⟩:=h (i+1) (by omega);exact⟨y,by rw[show o+1+i=o+(i+1) from by omega];exact hy⟩)
     refine⟨z::zs,by simp[hl],fun j y hj=> ?_⟩;cases j with
     |zero=>simp at hj;subst hj;exact hz
     |succ j=>rw[show o+(j+1)=o+1+j from by omega];exact hr j y (by simpa using hj)
   obtain⟨zs,hl,hr⟩:=adn (len+1) o each;exact⟨zs,some ⟨b,o,none⟩,cap,by rw[hl],⟨by omega,hcm,.inr ⟨b,o,rfl,hlt,hr⟩⟩⟩
end
end Go.Proofs.YtabfapijgfjflaaGreat
namespace Go.Proofs.YtabfapijgfjflaaGreat
open Go.RowKit
abbrev ipV(m:Ip)(a:Option Addr)(c:Nat):Value:= .agg #[.int .i64 m.size,.slice a m.rows.length c]
abbrev ipO(m:Ip)(a:Option Addr)(c:Nat):Obj:= .cells #[.int .i64 m.size,.slice a m.rows.length c] 34
def Ic(b:Nat)(m:Ip)(a:Option Addr)(c:Nat)(X:World):Prop:=X.cell? ⟨b,0,none⟩=some (.int .i64 m.size)/\X.cell? ⟨b,1,none⟩=some (.slice a m.rows.length c)
theorem asr(W:World)(m:Ip)(a:Option Addr)(c:Nat):aai (Ic W.heap.size m a c) (W.alloc (ipO m a c)):=fun X hX=>
 ⟨(hX.cell (p:=⟨W.heap.size,0,none⟩) (by simp)).trans (by simp[go_sem]),(hX.cell (p:=⟨W.heap.size,1,none⟩) (by simp)).trans (by simp[go_sem])⟩
theorem aai.pushI{F:World->Prop}{W W':World}(k:aai F W)(hb:Below W.heap.size W W')(m:Ip)(a:Option Addr)(c:Nat):aai (fun X=>Ic W'.heap.size m a c X/\F X) (W'.alloc (ipO m a c)):=
 (k.mv (hb.alloc hb.size _)).and (asr W' m a c)
theorem adb{W:World}{rs:List (List Int)}{a:Option Addr}{c:Nat}(h:agB W.heap.size W rs a c):aai (fun X=>agB X.heap.size X rs a c) W:=fun X hX=>(h.below hX).mono hX.size
open Go.ChangeShapes Go.WideShapes Go.ChangeAt Go.Joins
theorem auv:Tryz.prog.cellsOf 41=1:=by kernel_rfl
theorem auw:Tryz.prog.cellsOf 32=1:=by kernel_rfl
theorem auy:Tryz.prog.cellsOf 34=2:=by kernel_rfl
section
variable {H:Type} {enc:TypeId×Value->H} {w:World} {sp:Nat->Bool} {hd:Bool}
theorem auz{n:Nat}{cs:List Value}{x:DataW H×List MemPlace}(h:DataW.trod enc Tryz.prog w 0 sp hd n 32 cs=some x):∃(rs:List (List Int)) (a:Option Addr) (c:Nat),cs=[.slice a rs.length c]/\agB w.heap.size w rs a c:=by
 rcases DataW.trod_slice Tryz.underlying32 h with⟨rfl,_⟩|⟨a,len,cap,elems,rest,m,hm,rfl,_,_,hlc,hcm,hel,hcell,_,_⟩
 ·exact⟨[],none,0,rfl,⟨af _,by simp[maxLen],.inl rfl⟩⟩
 ·cases len with
  |zero=>exact⟨[],some a,cap,rfl,⟨hlc,hcm,.inl rfl⟩⟩
  |succ len=>
   have each:∀i,i<len+1->∃(zs:List Int) (a':Option Addr) (c':Nat),w.cell? ((a.add (i*1)).add 0)=some (.slice a' zs.length c')/\acP w.heap.size w zs a' c':=by
    intro i hi;have h1:=hcell i hi;rw[ai (by omega),auv,Option.bind_eq_some_iff] at h1;obtain⟨cs,hcs,ht⟩:=h1;obtain⟨zs,a',c',e0,hz⟩:=auu ht;subst e0;refine⟨zs,a',c',?_,hz⟩;simp[World.cells?,Option.bind_eq_some_iff] at hcs;simpa using hcs
   obtain⟨b,o,spot⟩:=a
   have hspot:spot=none:=by
    obtain⟨_,_,_,h1,_⟩:=each 0 (by omega);cases spot with
    |none=>rfl
    |some k=>unfold World.cell? at h1;simp[Addr.add] at h1;split at h1<;>simp at h1
   subst hspot;simp only[aeG,Nat.add_zero,Nat.mul_one] at each
   have hlt:b<w.heap.size:=by
    obtain⟨_,_,_,h1,_⟩:=each 0 (by omega);exact acO h1
   have adn:∀(n o:Nat),(∀i,i<n->∃(zs:List Int) (a':Option Addr) (c':Nat),w.cell? ⟨b,o+i,none⟩=some (.slice a' zs.length c')/\acP w.heap.size w zs a' c')->∃rs:List (List Int),rs.length=n/\∀(j:Nat) (x:List Int),rs[j]? =some x->∃a' c',w.cell? ⟨b,o+j,none⟩=some (.slice a' x.length c')/\acP w.heap.size w x a' c':=by
    intro n
    induction n with
    |zero=>intro o _;exact⟨[],rfl,by simp⟩
    |succ n ih=>
     intro o h;obtain⟨z,a',c',hz⟩:=h 0 (by omega)
     obtain⟨zs,hl,hr⟩:=ih (o+1) (fun i hi=>by
      obtain⟨y,a',c',hy⟩:=h (i+1) (by omega);exact⟨y,a',c',by rw[show o+1+i=o+(i+1) from by omega];exact hy⟩)
     refine⟨z::zs,by simp[hl],fun j y hj=> ?_⟩;cases j with
     |zero=>simp at hj;subst hj;exact⟨a',c',hz⟩
     |succ j=>rw[show o+(j+1)=o+1+j from by omega];exact hr j y (by simpa using hj)
   obtain⟨rs,hl,hr⟩:=adn (len+1) o each;exact⟨rs,some ⟨b,o,none⟩,cap,by rw[hl],⟨by omega,hcm,.inr ⟨b,o,rfl,hlt,hr⟩⟩⟩
theorem auA{n:Nat}{cs:List Value}{x:DataW H×List MemPlace}(h:DataW.trod enc Tryz.prog w 0 sp hd n 34 cs=some x):
 ∃(m:Ip) (a:Option Addr) (c:Nat),cs=[.int .i64 m.size,.slice a m.rows.length c]/\(Lit.int .i64 m.size).wf=true/\agB w.heap.size w m.rows a c:=by
 obtain⟨xs,m,hm,_,hl,hxs,hf⟩:=DataW.trod_struct Tryz.underlying34 h;rw[auy] at hl
 match cs,hl with
 |[c0,c1],_=>
  match xs,hxs with
  |[y0,y1],_=>
   have h0:=hf 0 _ rfl;have h1:=hf 1 _ rfl;simp[afU,auw] at h0 h1;obtain⟨k,e0,_,wf0⟩:=DataW.trod_int Tryz.underlying3 h0;obtain⟨rs,a,c,e1,hR⟩:=auz h1;simp at e0 e1;subst e0;subst e1;exact⟨⟨k,rs⟩,a,c,rfl,wf0,hR⟩
theorem auB{r:Reach}{b0:Nat}{v:Value}{d:DataW H}{p:List MemPlace}(hv:Value.okWide Tryz.prog w r b0 34 v)(h:DataW.Trod enc Tryz.prog w 0 sp hd 34 v d p):
 ∃(m:Ip) (a:Option Addr) (c:Nat),v=ipV m a c/\(Lit.int .i64 m.size).wf=true/\agB w.heap.size w m.rows a c:=by
 obtain⟨cs,rfl,_⟩:=okWide_struct Tryz.underlying34 hv;obtain⟨n,hn⟩:=h;obtain⟨m,a,c,e,hw,hR⟩:=auA hn;refine⟨m,a,c,?_,hw,hR⟩;obtain⟨l⟩:=cs;simp only[Value.cells] at e;rw[show l=_ from e]
end
end Go.Proofs.YtabfapijgfjflaaGreat
namespace Go.Proofs.YtabfapijgfjflaaGreat
open Go.RowKit
def ajF:List Lt3->List T->List Lt3
 |x::c,l::r::ts=>⟨x.neg,l,r⟩::ajF c ts
 |_,_=>[]
theorem ag7:∀(c:List Lt3) (ts:List T),ts.length=2*c.length->aad (ajF c ts)=ts/\(ajF c ts).map Lt3.neg=c.map Lt3.neg
 |[],[],_=>⟨rfl,rfl⟩
 |[],_::_,h=>by simp at h
 |_::_,[],h=>by simp at h
 |_::c,[_],h=>by simp at h;omega
 |x::c,l::r::ts,h=>by
  obtain⟨h1,h2⟩:=ag7 c ts (by simp at h;omega);refine⟨?_,?_⟩
  ·show[l,r]++aad (ajF c ts)=_;rw[h1];rfl
  ·show x.neg::(ajF c ts).map Lt3.neg=_;rw[h2];rfl
def At4(W:World)(b o:Nat)(x:LV):Prop:=
 W.cell? ⟨b,o,none⟩=some (.int .i64 x.l.head)/\W.cell? ⟨b,o+1,none⟩=some (.slice x.pa x.l.args.length x.ca)/\W.cell? ⟨b,o+2,none⟩=some (.int .i64 x.r.head)/\W.cell? ⟨b,o+3,none⟩=some (.slice x.pb x.r.args.length x.cb)
theorem aw8{ok:Nat->Prop}{w:World}:∀(P:List LV) (ts:List T) (b o:Nat),ts.length=2*P.length->aav ok w ts b o->∃Q:List LV,Q.length=P.length/\t3s Q=ajF (t3s P) ts/\∀(k:Nat) (x:LV),Q[k]? =some x->At4 w b (o+k*4) x/\adB ok w x/\∀y,P[k]? =some y->x.n=y.n
 |[],[],b,o,_,_=>⟨[],rfl,rfl,by simp⟩
 |[],_::_,b,o,h,_=>by simp at h
 |_::_,[],b,o,h,_=>by simp at h
 |_::c,[_],b,o,h,_=>by simp at h;omega
 |y::P,l::r::ts,b,o,h,hr=>by
  simp only[aav] at hr;obtain⟨hl,hr',hrow⟩:=hr;obtain⟨wl,p1,a,c,p2,hA⟩:=abO.1 hl;obtain⟨wr,q1,a',c',q2,hB⟩:=abO.1 hr';obtain⟨Q,h1,h2,h3⟩:=aw8 P ts b (o+2+2) (by simp at h;omega) hrow;refine⟨⟨y.n,l,r,a,c,a',c'⟩::Q,by simp[h1],?_,fun k x hx=> ?_⟩
  ·show _::t3s Q=_;rw[h2];rfl
  ·cases k with
   |zero=>
    simp at hx;subst hx
    exact⟨⟨by simpa using p1,by simpa using p2,by simpa using q1,by simpa using q2⟩,⟨wl,wr,hA,hB⟩,fun z hz=>by simp at hz;subst hz;rfl⟩
   |succ k=>
    obtain⟨g1,g2,g3⟩:=h3 k x (by simpa using hx);rw[show o+(k+1)*4=o+2+2+k*4 from by omega];exact⟨g1,g2,fun z hz=>g3 z (by simpa using hz)⟩
theorem aon{P:List LV}:∀{k:Nat} {x y:LV},P[k]? =some y->y.n=x.n->((((aaf P).set (k*5+1) (.int .i64 x.l.head)).set (k*5+2) (.slice x.pa x.l.args.length x.ca)).set (k*5+3) (.int .i64 x.r.head)).set (k*5+4) (.slice x.pb x.r.args.length x.cb)=aaf (P.set k x):=by
 induction P with
 |nil=>intro k x y h;simp at h
 |cons z P ih=>
  intro k x y h hn;cases k with
  |zero=>
   simp at h;subst h
   show _=x.cells++aaf P;show((((z.cells++aaf P).set _ _).set _ _).set _ _).set _ _=_;simp[hn]
  |succ k=>
   have:=ih (k:=k) (x:=x) (y:=y) (by simpa using h) hn;show((((z.cells++aaf P).set _ _).set _ _).set _ _).set _ _=z.cells++aaf (P.set k x);rw[←this]
   have e:∀(L:List Value) (i:Nat) (u:Value),(z.cells++L).set ((k+1)*5+i) u=z.cells++L.set (k*5+i) u:=fun L i u=>by
    rw[List.set_append_right _ _ (by simp;omega)]
    congr 2
    simp;omega
   rw[e,e,e,e]
def WsI(P Q:List LV)(aN:Nat)(v:Value)(w:World)(i:Value)(wr:World):Prop:=
 ∃k:Nat,k<=P.length/\i= .int .i64 k/\OL (· <aN) aN v (Q.take k++P.drop k) wr/\Below w.heap.size w wr
def auC(ok:Nat->Prop)(P:List LV)(ts:List T)(w:World)(e:Ending)(w':World):Prop:=
 ∃(Q:List LV) (v:Value),e= .returned v/\t3s Q=ajF (t3s P) ts/\OL ok w.heap.size v Q w'/\Below w.heap.size w w'
theorem ahC(ok:Nat->Prop)(P:List LV)(hl:P.length<=1000000)(ts:List T)(ht:ts.length=2*P.length)(aM:Nat)(a:Option Addr)(c:Nat)(a':Option Addr)(c':Nat)(w:World)(hn:aM<=w.heap.size)(hok:∀b,ok b->b<w.heap.size)(hP:aaV aM w P a c)(hT:aaj ok w ts a' c'):
 Calls Tryz.prog 48 #[.slice a P.length c,.slice a' ts.length c'] w (auC ok P ts w):=by
 obtain⟨Q,hq1,hq2,hq3⟩:∃Q:List LV,Q.length=P.length/\t3s Q=ajF (t3s P) ts/\∀(k:Nat) (x:LV),Q[k]? =some x->∃b o,a'=some ⟨b,o,none⟩/\b<w.heap.size/\At4 w b (o+k*4) x/\adB ok w x/\∀y,P[k]? =some y->x.n=y.n:=by
  rcases hT.2.2 with h|⟨b,o,h1,h2,h3⟩
  ·subst h;have:P=[]:=aC (by simp at ht;omega);subst this;exact⟨[],rfl,rfl,by simp⟩
  ·obtain⟨Q,q1,q2,q3⟩:=aw8 P ts b o ht h3;exact⟨Q,q1,q2,fun k x hx=>⟨b,o,h1,hok b h2,(q3 k x hx).1,(q3 k x hx).2.1,(q3 k x hx).2.2⟩⟩
 have CL:=ae (aoe P hl aM a c w hn hP);have HQ:=ae hq3;have HQ1:=ae hq1;have HQ2:=ae hq2;have HT:=ae ht;have htl:ts.length<=c'/\c'<=maxLen:=⟨hT.1,hT.2.1⟩;unfold maxLen at htl;obtain⟨ht1,ht2⟩:=htl;have HOK:=ae hok;clear hP hT hq1 hq2 hq3 ht hok;go_enter Tryz.func48,Tryz.ntmps48
 go_wp2_with fail
 refine CL.out.mono ?_;rintro e w2 ⟨v,rfl,hO,hb2⟩;have HO0:=ae (show OL (· <w.heap.size) w.heap.size v P w2 from hO.kept (fun _ _=>rfl) (fun _ _=>rfl) (fun b hb=>aF hb hn));have HB2:=ae hb2;obtain⟨pv,cv,rfl,hcl⟩:=hO.args (fun b hb=>by have:b<aM:=hb;have:=hb2.size;omega);have hpc:P.length<=cv/\cv<=maxLen:=⟨hcl.1,hcl.2.1⟩;unfold maxLen at hpc;obtain⟨hp1,hp2⟩:=hpc;clear hO hb2 hcl;go_wp2
 go_loopw [11] (fun i wr=>WsI P Q w.heap.size (.slice pv P.length cv) w i wr) (fun i _=>P.length-(intOf i).toNat)
 case atStart=>exact⟨0,Nat.zero_le _,rfl,by simpa using HO0.out,HB2.out⟩
 case round=>
  obtain⟨k,hk,rfl,hO,hB⟩:=hrel;have HO:=ae hO;have HB:=ae hB;have hbz:=hB.size;clear HO0 HB2;by_cases hlt:k<P.length
  ·have hQk:Q[k]? =some (Q[k]'(by rw[HQ1.out];exact hlt)):=ai _;generalize Q[k]'(by rw[HQ1.out];exact hlt)=x at hQk;obtain⟨b,o,rfl,hbn,⟨t0,t1,t2,t3⟩,hxl,hxn⟩:=HQ.out k x hQk;have hPk:P[k]? =some P[k]:=ai hlt
   have hlen:(Q.take k++P.drop k).length=P.length:=by
    rw[aK,List.length_take,List.length_drop,HQ1.out];omega
   obtain⟨g,rfl⟩:∃g,pv=some ⟨g,0,none⟩:=by
    rcases hO.1.2 with⟨h,h0⟩|⟨g,cap,cur,h,_⟩
    ·omega
    ·simp only[Value.slice.injEq] at h;exact⟨g,h.1⟩
   have hgw:w.heap.size<=g/\g<wr.heap.size:=hO.block rfl;have hown:=hO.1;rw[hlen] at hown;have hbg:b≠g:=by omega
   have hbw:b<wr.heap.size:=by omega
   have r0:=(hB.cell (p:=⟨b,o+k*4,none⟩) hbn).trans t0;have r1:=(hB.cell (p:=⟨b,o+k*4+1,none⟩) hbn).trans t1;have r2:=(hB.cell (p:=⟨b,o+k*4+2,none⟩) hbn).trans t2;have r3:=(hB.cell (p:=⟨b,o+k*4+3,none⟩) hbn).trans t3;have e1:o+2*k*2=o+k*4:=by omega
   have e2:o+(2*k+1)*2=o+k*4+2:=by omega
   have q0:wr.cell? ⟨b,o+2*k*2,none⟩=some (.int .i64 x.l.head):=by rw[e1];exact r0
   have q1:wr.cell? ⟨b,o+2*k*2+1,none⟩=some (.slice x.pa x.l.args.length x.ca):=by rw[e1];exact r1
   have q2:wr.cell? ⟨b,o+(2*k+1)*2,none⟩=some (.int .i64 x.r.head):=by rw[e2];exact r2
   have q3:wr.cell? ⟨b,o+(2*k+1)*2+1,none⟩=some (.slice x.pb x.r.args.length x.cb):=by rw[e2];exact r3
   clear e1 e2 r0 r1 r2 r3 t0 t1 t2 t3
   obtain⟨s1,s2,s3,s4⟩:(∃u,wr.cell? ⟨g,k*5+1,none⟩=some u)/\(∃u,wr.cell? ⟨g,k*5+2,none⟩=some u)/\(∃u,wr.cell? ⟨g,k*5+3,none⟩=some u)/\(∃u,wr.cell? ⟨g,k*5+4,none⟩=some u):=by
    obtain⟨pa2,ca2,e,hcl⟩:=hO.args (fun b hb=>by have:b<w.heap.size:=hb;omega);simp only[Value.slice.injEq] at e;obtain⟨rfl,_,_⟩:=e;obtain⟨b2,o2,y,e,_,_,⟨_,y1,y2,y3,y4⟩,_⟩:=hcl.elem (i:=k) (by rw[hlen];exact hlt);simp only[aJ,Addr.mk.injEq,and_true] at e;obtain⟨rfl,rfl⟩:=e;rw[Nat.zero_add] at y1 y2 y3 y4;exact⟨⟨_,y1⟩,⟨_,y2⟩,⟨_,y3⟩,⟨_,y4⟩⟩
   obtain⟨s1,hs1⟩:=s1;obtain⟨s2,hs2⟩:=s2;obtain⟨s3,hs3⟩:=s3;obtain⟨s4,hs4⟩:=s4;have fz:∀j,wr.frozen? ⟨g,j,none⟩=false:=fun j=>hown.frozenAt j;have hk0:(0:Int)<=(k:Int):=aw _;have hk1:(k:Int)<(P.length:Int):=by omega
   have hk2:2*(k:Int)+1<(ts.length:Int):=by have:=HT.out;omega
   have hnew:OL (· <w.heap.size) w.heap.size (.slice (some ⟨g,0,none⟩) P.length cv) (Q.take (k+1)++P.drop (k+1)) ((((wr.setCell ⟨g,k*5+1,none⟩ (.int .i64 x.l.head)).setCell ⟨g,k*5+1+1,none⟩ (.slice x.pa x.l.args.length x.ca)).setCell ⟨g,k*5+3,none⟩ (.int .i64 x.r.head)).setCell ⟨g,k*5+3+1,none⟩ (.slice x.pb x.r.args.length x.cb)).drew/\
    Below w.heap.size wr ((((wr.setCell ⟨g,k*5+1,none⟩ (.int .i64 x.l.head)).setCell ⟨g,k*5+1+1,none⟩ (.slice x.pa x.l.args.length x.ca)).setCell ⟨g,k*5+3,none⟩ (.int .i64 x.r.head)).setCell ⟨g,k*5+3+1,none⟩ (.slice x.pb x.r.args.length x.cb)).drew:=by
    have hbl:Below w.heap.size wr ((((wr.setCell ⟨g,k*5+1,none⟩ (.int .i64 x.l.head)).setCell ⟨g,k*5+1+1,none⟩ (.slice x.pa x.l.args.length x.ca)).setCell ⟨g,k*5+3,none⟩ (.int .i64 x.r.head)).setCell ⟨g,k*5+3+1,none⟩ (.slice x.pb x.r.args.length x.cb)).drew:=
     (((((ag _ wr).setCell (p:=⟨g,_,none⟩) hgw.1 _).setCell (p:=⟨g,_,none⟩) hgw.1 _).setCell (p:=⟨g,_,none⟩) hgw.1 _).setCell (p:=⟨g,_,none⟩) hgw.1 _).drew
    have hPe:(Q.take k++P.drop k)[k]? =some P[k]:=by
     rw[List.getElem?_append_right (by simp;omega),List.length_take,HQ1.out,Nat.min_eq_left (by omega),Nat.sub_self,List.getElem?_drop];exact hPk
    have hst:(Q.take k++P.drop k).set k x=Q.take (k+1)++P.drop (k+1):=by
     rw[List.set_append_right _ _ (by simp;omega),List.length_take,HQ1.out,Nat.min_eq_left (by omega),Nat.sub_self,aD hlt,List.set_cons_zero,List.take_add_one,hQk];simp
    have h4:=((((hown.stored (k*5+1) (.int .i64 x.l.head)).1.stored (k*5+2) (.slice x.pa x.l.args.length x.ca)).1.stored (k*5+3) (.int .i64 x.r.head)).1.stored (k*5+4) (.slice x.pb x.r.args.length x.cb)).1;rw[aon hPe (hxn _ hPk).symm,hst] at h4;refine⟨⟨?_,fun y hy=> ?_⟩,hbl⟩
    ·have hlen2:(Q.take (k+1)++P.drop (k+1)).length=P.length:=by rw[←hst,List.length_set,hlen]
     rw[hlen2];exact h4
    ·rcases aG.1 hy with hy|hy
     ·have hy':y∈Q.take k\/y=x:=by
       rw[List.take_add_one,hQk] at hy;simpa using hy
      rcases hy' with hy'|rfl
      ·exact(hO.2 y (List.mem_append_left _ hy')).keep (fun b hb=>hbl.block b hb) (fun _ x=>x)
      ·exact hxl.keep (fun b hb=>(hbl.block b (HOK.out b hb)).trans (hB.block b (HOK.out b hb))) HOK.out
     ·have hy':y∈P.drop k:=by rw[aD hlt];exact aH _ hy
      exact(hO.2 y (List.mem_append_right _ hy')).keep (fun b hb=>hbl.block b hb) (fun _ x=>x)
   have HNEW:=ae hnew;clear hO hB hnew hQk hPk hlen hown hxl hxn;go_wp2
   go_region
   go_wp2
   go_roundw
   case rel=>exact⟨k+1,by omega,by go_num,HNEW.out.1,HB.out.trans HNEW.out.2⟩
   case measure=>simp[intOf];omega
  ·obtain rfl:k=P.length:=by omega
   have HR:=ae (show OL ok w.heap.size (.slice pv P.length cv) Q wr from by
    have h:=HO.out;rw[List.drop_of_length_le (af _),List.append_nil,List.take_of_length_le (by rw[HQ1.out];exact af _)] at h;refine⟨h.1,fun x hx=> ?_⟩;obtain⟨k,hk⟩:=au hx;obtain⟨_,_,_,_,_,hl,_⟩:=HQ.out k x hk;exact hl.keep (fun b hb=>HB.out.block b (HOK.out b hb)) (fun _ h=>h))
   go_wp2;go_ret;exact⟨Q,_,rfl,HQ2.out,HR.out,HB.out⟩
theorem OL.argsp{ok ok':Nat->Prop}{aN:Nat}{v:Value}{P:List LV}{W:World}(h:OL ok aN v P W)(hm:∀b,ok b->ok' b)(hg:∀b,aN<=b->b<W.heap.size->ok' b):∃a c,v= .slice a P.length c/\adR ok' W P a c:=by
 have hbl:=fun g (hg:v.ownBlock=some g)=>h.block hg;have hcells:=fun g hg=>h.1.cells (g:=g) hg
 rcases h.1.2 with⟨rfl,h0⟩|⟨g,cap,cur,rfl,hb,hh,hn,hc,hs,_⟩
 ·have:P=[]:=aC h0;subst this;exact⟨none,0,rfl,adR.nil _ _ _ (by simp[maxLen])⟩
 ·refine⟨_,cap,rfl,hn,hc,.inr ⟨g,0,rfl,hg g (hbl g rfl).1 (hbl g rfl).2,fun j x hx=>⟨?_,(h.2 x (ak hx)).keep (fun _ _=>rfl) hm⟩⟩⟩
  have hc5:∀i u,(aaf P)[i]? =some u->W.cell? ⟨g,i,none⟩=some u:=fun i u hu=>by
   have:=hcells g rfl i u hu;rw[aaB] at this;simpa using this
  obtain⟨g0,g1,g2,g3,g4⟩:=acG hx;simp only[Nat.zero_add];exact⟨hc5 _ _ g0,hc5 _ _ g1,hc5 _ _ g2,hc5 _ _ g3,hc5 _ _ g4⟩
def auD(D:List Lt3)(k:Int)(w:World)(e:Ending)(w':World):Prop:=∃(P:List LV) (p:Option Addr) (c:Nat),t3s P=D/\e= .returned (.tuple #[.slice p P.length c,.int .i64 k])/\adR (fun b=>w.heap.size<=b/\b<w'.heap.size) w' P p c/\Below w.heap.size w w'
theorem aiv(P:List LV)(hl:P.length<=1000000)(hs:T.sizes (aad (t3s P))<=100000)(aM:Nat)(a:Option Addr)(c:Nat)(w:World)(hn:aM<=w.heap.size)(hP:aaV aM w P a c):
 Calls Tryz.prog 20 #[.slice a P.length c] w (auD (nmL (t3s P)) (nmE (t3s P)) w):=by
 have HP:=ae (hP.mono hn);clear hP;go_enter Tryz.func20,Tryz.ntmps20
 go_wp2_with fail
 refine(aqa P hl w.heap.size a c w (af _) HP.out).mono ?_;rintro e w2 ⟨v,rfl,hO,hb2⟩;obtain⟨p,c2,rfl,hA⟩:=hO.args hb2.size;have HB2:=ae hb2;have CN:=ae (ap9 (aad (t3s P)) hs w2.heap.size p c2 w2 (af _) hA);clear hO hb2 hA
 go_wp2_with fail
 refine CN.out.mono ?_;rintro e w3 ⟨hr,hb3⟩;have HB3:=ae (HB2.out.trans (hb3.mono HB2.out.size));have HZ2:=ae HB2.out.size;clear hb3 CN
 rcases hr with⟨hbad,rfl⟩|⟨hbad,a3,c3,rfl,hA3⟩
 ·have HE:=ae (show nmL (t3s P)=[]/\nmE (t3s P)=1 from⟨by unfold nmL;rw[hbad];rfl,by unfold nmE;rw[hbad];rfl⟩);clear hbad;go_wp2;refine bodyPost_ret (v:= .tuple #[.slice none 0 0,.int .i64 1]) (by simp[results,Tryz.results20,go_sem]) rfl ?_;exact⟨[],none,0,HE.out.1.symm,by rw[HE.out.2];rfl,adR.nil _ _ _ (by simp[maxLen]),HB3.out⟩
 ·have hlen:(T.nrms (aad (t3s P)) []).1.length=2*P.length:=by rw[T.nrms_length,ab8];simp
  have CW:=ae (ahC (fun b=>w2.heap.size<=b/\b<w3.heap.size) P hl (T.nrms (aad (t3s P)) []).1 hlen w3.heap.size a c a3 c3 w3 (af _) (fun _ h=>h.2) ((HP.out.below HB3.out).mono HB3.out.size) hA3)
  have HE:=ae (show nmE (t3s P)=0/\ajF (t3s P) (T.nrms (aad (t3s P)) []).1=nmL (t3s P) from by
   obtain⟨h1,h2⟩:=ag7 (t3s P) (T.nrms (aad (t3s P)) []).1 (by rw[hlen];simp);exact⟨by unfold nmE;rw[hbad];rfl,ajk (by rw[h2,apF _ hbad]) (by rw[h1,aeu hbad])⟩)
  clear hbad hA3 hlen
  go_wp2_with fail
  refine CW.out.mono ?_;rintro e w4 ⟨Q,v,rfl,hQ,hO4,hb4⟩;obtain⟨p4,c4,rfl,hcl⟩:=hO4.argsp (ok':=fun b=>w.heap.size<=b/\b<w4.heap.size) (fun b hb=>⟨aE HZ2.out hb.1,aF hb.2 hb4.size⟩) (fun b h1 h2=>⟨aE HB3.out.size h1,h2⟩);have HQ:=ae (hQ.trans HE.out.2);have HCL:=ae hcl;have HB4:=ae (HB3.out.trans (hb4.mono HB3.out.size));clear hQ hO4 hb4 hcl CW;go_wp2;refine bodyPost_ret (v:= .tuple #[.slice p4 Q.length c4,.int .i64 0]) (by simp[results,Tryz.results20,go_sem]) rfl ?_;exact⟨Q,p4,c4,HQ.out,by rw[HE.out.1],HCL.out,HB4.out⟩
theorem aqi(P:List LV)(hl:P.length<=1000000)(hs:T.sizes (aad (t3s P))<=100000)(aM:Nat)(a:Option Addr)(c:Nat)(w:World)(hn:aM<=w.heap.size)(hP:aaV aM w P a c):
 Calls Tryz.prog 20 #[.slice a P.length c] w (apD (nmL (t3s P)) (nmE (t3s P)) w):=
 (aiv P hl hs aM a c w hn hP).mono fun e w' ⟨Q,p,c,h1,h2,h3,h4⟩=>⟨Q,p,c,h1,h2,h3.cl (fun _ h=>h.2),h4⟩
theorem ajG(x y:LV)(hx:x.sz)(aM:Nat)(w:World)(hn:aM<=w.heap.size)(hX:aa1 aM w x)(hY:aa1 aM w y):
 Calls Tryz.prog 139 #[x.v,y.v] w fun e w'=>e= .returned (.bool (au3 x.l x.r y.l y.r))/\Below w.heap.size w w':=by
 have d0:=(((((aai.below (ag _ w)).and (abT (hY.mono hn))).and (abT (hX.mono hn))).pushL (ag _ _) x).pushL (ag _ _) y);simp only[aah] at d0;have D:=ae d0;have S1:=fun(W:World) (hX:aa1 W.heap.size W x) (hY:aa1 W.heap.size W y)=>aep x.l y.l hx.1 W.heap.size x.pa x.ca y.pa y.ca W (af _) hX.lw hY.lw hX.la hY.la;have S2:=fun(W:World) (hX:aa1 W.heap.size W x) (hY:aa1 W.heap.size W y)=>aep x.r y.r hx.2 W.heap.size x.pb x.cb y.pb y.cb W (af _) hX.rw hY.rw hX.ra hY.ra;have S3:=fun(W:World) (hX:aa1 W.heap.size W x) (hY:aa1 W.heap.size W y)=>aep x.l y.r hx.1 W.heap.size x.pa x.ca y.pb y.cb W (af _) hX.lw hY.rw hX.la hY.ra;have S4:=fun(W:World) (hX:aa1 W.heap.size W x) (hY:aa1 W.heap.size W y)=>aep x.r y.l hx.2 W.heap.size x.pb x.cb y.pa y.ca W (af _) hX.rw hY.lw hX.ra hY.la;unfold au3;generalize ac4 x.l y.l=s1 at S1 ⊢;generalize ac4 x.r y.r=s2 at S2 ⊢;generalize ac4 x.l y.r=s3 at S3 ⊢;generalize ac4 x.r y.l=s4 at S4 ⊢;have C1:=ae S1;have C2:=ae S2;have C3:=ae S3;have C4:=ae S4;clear S1 S2 S3 S4 d0 hX hY;go_enter Tryz.func139,Tryz.ntmps139
 go_wp2_with fail
 generalize (w.alloc x.obj).alloc y.obj=w1 at D ⊢;generalize hb0:w.heap.size=b0 at D ⊢;have HB0:=ae hb0;clear hb0;refine(C1.out w1 D.out.now.2.2.1 D.out.now.2.2.2.1).mono ?_;rintro e w2 ⟨rfl,hb⟩;have D2:=ae (D.out.mv hb);clear hb D C1;obtain⟨⟨y0,y1,y2,y3,y4⟩,⟨x0,x1,x2,x3,x4⟩,_⟩:=D2.out.now;cases s1 with
 |true=>
  go_wp2_with fail
  refine(C2.out w2 D2.out.now.2.2.1 D2.out.now.2.2.2.1).mono ?_;clear y0 y1 y2 y3 y4 x0 x1 x2 x3 x4;rintro e w3 ⟨rfl,hb⟩;have D3:=ae (D2.out.mv hb);clear hb D2 C2;cases s2 with
  |true=>
   have HQ:=ae D3.out.now.2.2.2.2;go_wp2;go_ret;exact⟨rfl,by rw[HB0.out];exact HQ.out⟩
  |false=>
   obtain⟨⟨y0,y1,y2,y3,y4⟩,⟨x0,x1,x2,x3,x4⟩,_⟩:=D3.out.now
   go_wp2_with fail
   refine(C3.out w3 D3.out.now.2.2.1 D3.out.now.2.2.2.1).mono ?_;clear y0 y1 y2 y3 y4 x0 x1 x2 x3 x4;rintro e w4 ⟨rfl,hb⟩;have D4:=ae (D3.out.mv hb);clear hb D3 C3;cases s3 with
   |false=>
    have HQ:=ae D4.out.now.2.2.2.2;go_wp2;go_ret;exact⟨rfl,by rw[HB0.out];exact HQ.out⟩
   |true=>
    obtain⟨⟨y0,y1,y2,y3,y4⟩,⟨x0,x1,x2,x3,x4⟩,_⟩:=D4.out.now
    go_wp2_with fail
    refine(C4.out w4 D4.out.now.2.2.1 D4.out.now.2.2.2.1).mono ?_;clear y0 y1 y2 y3 y4 x0 x1 x2 x3 x4;rintro e w5 ⟨rfl,hb⟩;have HQ:=ae (D4.out.mv hb).now.2.2.2.2;clear hb D4 C4;go_wp2;go_ret;exact⟨by cases s4<;>rfl,by rw[HB0.out];exact HQ.out⟩
 |false=>
  go_wp2_with fail
  refine(C3.out w2 D2.out.now.2.2.1 D2.out.now.2.2.2.1).mono ?_;clear y0 y1 y2 y3 y4 x0 x1 x2 x3 x4;rintro e w4 ⟨rfl,hb⟩;have D4:=ae (D2.out.mv hb);clear hb D2 C3;cases s3 with
  |false=>
   have HQ:=ae D4.out.now.2.2.2.2;go_wp2;go_ret;exact⟨rfl,by rw[HB0.out];exact HQ.out⟩
  |true=>
   obtain⟨⟨y0,y1,y2,y3,y4⟩,⟨x0,x1,x2,x3,x4⟩,_⟩:=D4.out.now
   go_wp2_with fail
   refine(C4.out w4 D4.out.now.2.2.1 D4.out.now.2.2.2.1).mono ?_;clear y0 y1 y2 y3 y4 x0 x1 x2 x3 x4;rintro e w5 ⟨rfl,hb⟩;have HQ:=ae (D4.out.mv hb).now.2.2.2.2;clear hb D4 C4;go_wp2;go_ret;exact⟨by cases s4<;>rfl,by rw[HB0.out];exact HQ.out⟩
theorem ame(x y:LV)(hx:x.sz)(aM:Nat)(w:World)(hn:aM<=w.heap.size)(hX:aa1 aM w x)(hY:aa1 aM w y):
 Calls Tryz.prog 98 #[x.v,y.v] w fun e w'=>e= .returned (.bool (avp x.n x.l x.r y.n y.l y.r))/\Below w.heap.size w w':=by
 have hF:Below w.heap.size w ((w.alloc x.obj).alloc y.obj):=((ag _ w).alloc (af _) _).alloc (by simp) _;have S:=ajG x y hx aM ((w.alloc x.obj).alloc y.obj) (by simp;omega) (hX.below (hF.mono hn)) (hY.below (hF.mono hn));unfold avp;generalize au3 x.l x.r y.l y.r=s at S ⊢;have C:=ae S;have HF:=ae hF;clear S hX hY hF;obtain⟨p,hp⟩:∃p,(x.n==y.n)=p:=⟨_,rfl⟩;rw[hp];go_enter Tryz.func98,Tryz.ntmps98;cases p with
 |false=>
  go_wp2;go_ret;exact⟨rfl,HF.out⟩
 |true=>
  go_wp2_with fail
  refine C.out.mono ?_;rintro e w2 ⟨rfl,hb⟩;have HB:=ae (HF.out.trans (hb.mono HF.out.size));clear hb;go_wp2;go_ret;exact⟨by cases s<;>rfl,HB.out⟩
theorem ahD(x:LV)(hx:x.sz)(aM:Nat)(w:World)(hn:aM<=w.heap.size)(hX:aa1 aM w x):
 Calls Tryz.prog 99 #[x.v] w fun e w'=>e= .returned (.bool (ac4 x.l x.r))/\Below w.heap.size w w':=by
 have hF:Below w.heap.size w (w.alloc x.obj):=(ag _ w).alloc (af _) _;have hX1:=hX.below (hF.mono hn);have C:=ae (aep x.l x.r hx.1 aM x.pa x.ca x.pb x.cb (w.alloc x.obj) (by simp;omega) hX.lw hX.rw hX1.la hX1.ra);have HF:=ae hF;clear hX hF hX1;go_enter Tryz.func99,Tryz.ntmps99
 go_wp2_with fail
 refine C.out.mono ?_;rintro e w2 ⟨rfl,hb⟩;have HB:=ae (HF.out.trans (hb.mono HF.out.size));clear hb;go_wp2;go_ret;exact⟨rfl,HB.out⟩
end Go.Proofs.YtabfapijgfjflaaGreat
