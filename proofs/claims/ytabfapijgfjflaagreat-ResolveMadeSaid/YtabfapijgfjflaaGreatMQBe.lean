import Derived.Calls
import Derived.Test.YtabfapijgfjflaaGreatMQBa
import Derived.Lib.QuietBelow
import Derived.BigQuiet
import Derived.Test.YtabfapijgfjflaaGreatMAl
set_option linter.unusedVariables false
set_option linter.unusedSimpArgs false
set_option maxRecDepth 100000
set_option maxHeartbeats 2000000
namespace Go.Proofs.YtabfapijgfjflaaGreat
namespace Drw
def au0{α:Type}:Result α->World
 | .ok _ w=>w
 | .halt _ w=>w
theorem avg{α:Type}{d:Nat}:∀(q:Ask α) (w:World),d<=w.drawn->d<=(w.ask q).2.drawn:=by
 intro q
 induction q with
 |done a=>intro w h;exact h
 |ask what range k ih=>
  intro w h;unfold World.ask;dsimp only;split
  ·exact ih _ _ h
  ·exact ih _ _ (Nat.le_succ_of_le h)
theorem aoU{d:Nat}(w:World)(c:Sys)(h:d<=w.drawn):d<=(w.sys c).2.drawn:=by
 have:=avg (Kernel.perform c w.os) w h;unfold World.sys;split
 ·exact h
 ·rename_i e;rw[e] at this;exact this
theorem akb{P:Program}{w w':World}{at_:Addr}{u:TypeId}{k:Addr}{v:Value}{b:Bool}{l:List Addr}(h:w.viewStore P at_ u k v b= .ok (w',l)):w'.drawn=w.drawn:=by
 unfold World.viewStore at h;simp only[bind,Except.bind,pure,Except.pure,throw,throwThe,MonadExceptOf.throw] at h
 repeat' (split at h)
 all_goals first
  |(cases h;done)
  |(simp at h;done)
  |(simp only[Except.ok.injEq,Prod.mk.injEq] at h;obtain⟨rfl,_⟩:=h;rfl)
theorem agj{P:Program}{w w':World}{a:Addr}{v:Value}{b:Bool}{l:List Addr}(h:w.farStore P a v b= .ok (w',l)):w'.drawn=w.drawn:=by
 unfold World.farStore at h;split at h
 ·split at h
  ·rename_i r e;cases h;exact akb e
  ·cases h
 ·cases h
theorem aoV{α:Type}{d:Nat}(P:Program):∀(s:Sem α) (w:World),d<=w.drawn->d<=(au0 (s.run P w)).drawn:=by
 intro s
 induction s with
 |pure a=>intro w h;exact h
 |load m a k ih=>
  intro w h;simp only[Sem.run];split
  ·exact ih _ _ h
  ·split
   ·exact ih _ _ h
   ·exact h
 |store m a v k ih=>
  intro w h
  have key:d<=(au0 (match w.cell? a with
   |some _=>if w.frozen? a then Result.halt (.unsupported (.unsafePointer "a write to bytes that a string shares")) w else k.run P (w.setCell a v)
   |none=>match w.farStore P a v (m== .atomic) with
    | .ok (w,_)=>k.run P w
    | .error h=> .halt h w)).drawn:=by
   split
   ·split
    ·exact h
    ·exact ih _ h
   ·split
    ·rename_i e;exact ih _ (by rw[agj e];exact h)
    ·exact h
  cases v<;>first
   |(simp only[Sem.run];exact key)
   |(simp only[Sem.run,au0];exact h)
 |new o k ih=>intro w h;simp only[Sem.run];exact ih _ _ h
 |shape r k ih=>intro w h;simp only[Sem.run];exact ih _ _ h
 |freeze a n k ih=>
  intro w h;simp only[Sem.run];refine ih _ ?_;unfold World.freeze;split
  ·exact h
  ·exact h
 |frozen a k ih=>intro w h;simp only[Sem.run];exact ih _ _ h
 |getObj r k ih=>
  intro w h;simp only[Sem.run];split
  ·exact h
  ·exact ih _ _ h
  ·exact h
 |setObj r o k ih=>
  intro w h;simp only[Sem.run];split
  ·exact h
  ·exact ih _ h
  ·exact h
 |choose q k ih=>
  intro w h;simp only[Sem.run];split
  ·exact ih _ _ h
  ·exact ih _ _ (Nat.le_succ_of_le h)
 |sys c k ih=>intro w h;simp only[Sem.run];exact ih _ _ (aoU w c h)
 |program k ih=>intro w h;simp only[Sem.run];exact ih _ _ h
 |mark m k ih=>intro w h;simp only[Sem.run];exact ih _ h
 |halt x=>intro w h;exact h
theorem aaK{α:Type}{d:Nat}{P:Program}{s:Sem α}{w w':World}{v:α}(e:s.run P w= .ok v w')(h:d<=w.drawn):d<=w'.drawn:=by
 have:=aoV P s w h;rw[e] at this;exact this
theorem run_halt{α:Type}{d:Nat}{P:Program}{s:Sem α}{w w':World}{v:Halt}(e:s.run P w= .halt v w')(h:d<=w.drawn):d<=w'.drawn:=by
 have:=aoV P s w h;rw[e] at this;exact this
theorem ado{α:Type}{d:Nat}(P:Program):∀(s:Sem α) (w:World) (es:Array Event),d<=w.drawn->d<=(au0 (s.runT P w es).1).drawn:=by
 intro s
 induction s with
 |pure a=>intro w es h;exact h
 |load m a k ih=>
  intro w es h;simp only[Sem.runT];split
  ·exact ih _ _ _ h
  ·split
   ·exact ih _ _ _ h
   ·exact h
 |store m a v k ih=>
  intro w es h;cases v
  all_goals
   simp only[Sem.runT]
   first
    |exact h
    |(split
      ·split
       ·exact h
       ·exact ih _ _ h
      ·split
       ·rename_i e;exact ih _ _ (by rw[agj e];exact h)
       ·exact h)
 |new o k ih=>intro w es h;simp only[Sem.runT];exact ih _ _ _ h
 |shape r k ih=>intro w es h;simp only[Sem.runT];exact ih _ _ _ h
 |freeze a n k ih=>
  intro w es h;simp only[Sem.runT];refine ih _ _ ?_;unfold World.freeze;split
  ·exact h
  ·exact h
 |frozen a k ih=>intro w es h;simp only[Sem.runT];exact ih _ _ _ h
 |getObj r k ih=>
  intro w es h;simp only[Sem.runT];split
  ·exact h
  ·exact ih _ _ _ h
  ·exact h
 |setObj r o k ih=>
  intro w es h;simp only[Sem.runT];split
  ·exact h
  ·exact ih _ _ h
  ·exact h
 |choose q k ih=>
  intro w es h;simp only[Sem.runT];split
  ·exact ih _ _ _ h
  ·exact ih _ _ _ (Nat.le_succ_of_le h)
 |sys c k ih=>intro w es h;simp only[Sem.runT];exact ih _ _ _ (aoU w c h)
 |program k ih=>intro w es h;simp only[Sem.runT];exact ih _ _ _ h
 |mark m k ih=>intro w es h;simp only[Sem.runT];exact ih _ _ h
 |halt x=>intro w es h;exact h
theorem atC{α:Type}{d:Nat}{P:Program}{s:Sem α}{w w':World}{es es':Array Event}{v:α}(e:s.runT P w es=(.ok v w',es'))(h:d<=w.drawn):d<=w'.drawn:=by
 have:=ado P s w es h;rw[e] at this;exact this
theorem agk{α:Type}{d:Nat}{P:Program}{s:Sem α}{w w':World}{es es':Array Event}{v:Halt}(e:s.runT P w es=(.halt v w',es'))(h:d<=w.drawn):d<=w'.drawn:=by
 have:=ado P s w es h;rw[e] at this;exact this
theorem akc{α:Type}{d:Nat}{P:Program}{s:Sem α}{w w':World}{es:Array Event}{v:α}(e:(s.runT P w es).1= .ok v w')(h:d<=w.drawn):d<=w'.drawn:=by
 have:=ado P s w es h;rw[e] at this;exact this
theorem aiU{α:Type}{d:Nat}{P:Program}{s:Sem α}{w w':World}{es:Array Event}{v:Halt}(e:(s.runT P w es).1= .halt v w')(h:d<=w.drawn):d<=w'.drawn:=by
 have:=ado P s w es h;rw[e] at this;exact this
def abY:GStep->World
 | .go _ w _=>w
 | .comm _ _ _ _ w _=>w
 | .spawn _ _ w _=>w
 | .count _ w _=>w
 | .timer _ _ w _=>w
 | .alone _ _ w _=>w
 | .newcoro _ _ _ w _=>w
 | .coroswitch _ _ _ w _=>w
 | .collect _ w _=>w
 | .watch _ w _=>w
 | .ended _ w _=>w
theorem abK(es:Array Event)(s:GStep):abY (s.after es)=abY s:=by cases s<;>rfl
variable {d:Nat} {P:Program}
theorem avh{c:Prop}[Decidable c]{x y:GStep}(h1:d<=(abY x).drawn)(h2:d<=(abY y).drawn):d<=(abY (if c then x else y)).drawn:=by
 split
 ·exact h1
 ·exact h2
theorem anH(w:World)(fd:Nat)(t:ByteArray)(o:Outcome)(h:d<=w.drawn):d<=(abY (endWith w fd t o)).drawn:=by
 have h1:=aoU w (.write fd t) h;unfold endWith;dsimp only;split
 ·rename_i e;rw[e] at h1;split<;>exact h1
 ·rename_i e;rw[e] at h1;exact h1
 ·rename_i e;rw[e] at h1;exact h1
theorem ad3(fr:Frame)(m:String)(w:World)(h:d<=w.drawn):d<=(abY (endThrow fr m w)).drawn:=h
theorem amy{fr:Frame}{m:String}{w w2:World}{g2:Goroutine}{es:Array Event}(e:endThrow fr m w= .go g2 w2 es)(h:d<=w.drawn):d<=w2.drawn:=by
 have h2:=ad3 fr m w h;rw[e] at h2;exact h2
theorem adT(fr:Frame)(v:Value)(w:World)(h:d<=w.drawn):d<=(abY (endPrinting P fr v w)).drawn:=by
 unfold endPrinting;dsimp only
 repeat' split
 all_goals exact h
theorem agl(fr:Frame)(cs:List Frame)(dy:Option Dying)(m:String)(w:World)(h:d<=w.drawn):d<=(abY (endFatal P fr cs dy m w)).drawn:=by
 unfold endFatal;dsimp only;split
 ·rename_i e;exact aaK e h
 ·rename_i e;exact run_halt e h
 ·rename_i e;exact run_halt e h
theorem anI(fr:Frame)(dy:Dying)(f:Fatal)(w:World)(h:d<=w.drawn):d<=(abY (writeOn P fr dy f w)).drawn:=by
 unfold writeOn;dsimp only;split
 ·exact h
 ·split
  ·rename_i e;exact atC e h
  ·rename_i e;exact agk e h
  ·rename_i e;exact agk e h
  ·rename_i e;exact agk e h
theorem avi(fr:Frame)(dy:Dying)(w:World)(h:d<=w.drawn):d<=(abY (die P fr dy w)).drawn:=by
 unfold die;split
 ·exact anI _ _ _ _ h
 ·split
  ·split
   ·exact h
   ·exact anH _ _ _ _ h
  ·dsimp only;split
   ·exact h
   ·split
    ·rename_i e;exact aaK e h
    ·rename_i e;exact run_halt e h
   ·rw[abK];split
    ·exact akc (by assumption) h
    ·exact akc (by assumption) h
    ·exact aiU (by assumption) h
    ·exact adT _ _ _ (aiU (by assumption) h)
    ·exact h
   ·exact h
theorem ad4(main:Bool)(fr:Frame)(cs:List Frame)(dy:Option Dying)(v:Value)(w:World)(h:d<=w.drawn):d<=(abY (doReturn P main fr cs dy v w)).drawn:=by
 unfold doReturn;dsimp only
 repeat' split
 all_goals exact h
theorem agm(fr:Frame)(cs:List Frame)(dy:Option Dying)(c:Deferred)(w:World)(h:d<=w.drawn):d<=(abY (callDeferred P fr cs dy c w)).drawn:=by
 have h1:=ado P (invoke c.target c.args) w #[] h;unfold callDeferred;refine avh h ?_
 ·generalize (invoke c.target c.args).runT P w #[]=r at h1 ⊢;obtain⟨r,es⟩:=r;dsimp only;rw[abK];dsimp only at h1
  repeat' split
  all_goals first
   |exact h1
   |exact agl _ _ _ _ _ h1
   |exact ad3 _ _ _ h1
theorem aoW(main:Bool)(fr:Frame)(cs:List Frame)(dy:Option Dying)(w:World)(h:d<=w.drawn):d<=(abY (unwind P main fr cs dy w)).drawn:=by
 unfold unwind;split
 ·rename_i block _ ds _;have h1:=ado P (Instr.takeDeferred block) w #[] h;generalize (Instr.takeDeferred block).runT P w #[]=r at h1 ⊢;obtain⟨r,es⟩:=r;dsimp only;rw[abK];dsimp only at h1;split
  ·exact h1
  ·exact h1
 ·exact agm _ _ _ _ _ h
 ·split
  ·exact h
  ·split
   ·exact h
   ·split
    ·exact h
    ·split
     ·split
      ·exact h
      ·split
       ·rename_i e;exact aaK e h
       ·rename_i e;exact run_halt e h
       ·rename_i e;exact run_halt e h
     ·split
      ·exact adT _ _ _ h
      ·exact h
  ·split
   ·exact ad4 _ _ _ _ _ _ h
   ·rename_i fn _;have h1:=ado P (results fn fr.tmps) w #[] h;generalize (results fn fr.tmps).runT P w #[]=r at h1 ⊢;obtain⟨r,es⟩:=r;dsimp only;rw[abK];dsimp only at h1;split
    ·exact ad4 _ _ _ _ _ _ h1
    ·exact h1
    ·exact h1
theorem arq(fr:Frame)(cs:List Frame)(dy:Option Dying)(g:Nat)(w:World)(h:d<=w.drawn):d<=(abY (early P fr cs dy g w)).drawn:=by
 unfold early;dsimp only
 repeat' split
 all_goals try dsimp only[abY]
 all_goals first
  |exact h
  |exact aaK (by assumption) h
  |exact run_halt (by assumption) h
theorem aiV(fr:Frame)(cs:List Frame)(dy:Option Dying)(s:Sem Next)(w:World)(listen:Bool)(h:d<=w.drawn):d<=(abY (stepG.apply P listen fr cs dy s w)).drawn:=by
 have h1:d<=(au0 (if listen then s.runT P w #[] else(s.run P w,#[])).1).drawn:=by
  split
  ·exact ado P s w _ h
  ·exact aoV P s w h
 unfold stepG.apply;generalize (if listen then s.runT P w #[] else(s.run P w,#[]))=r at h1 ⊢;obtain⟨r,es⟩:=r;dsimp only at h1 ⊢;rw[abK];split
 all_goals (repeat' split)
 all_goals try dsimp only[au0] at h1
 all_goals first
  |exact h1
  |exact ad3 _ _ _ h1
  |exact agl _ _ _ _ _ h1
  |exact arq _ _ _ _ _ h1
theorem atD(fr:Frame)(cs:List Frame)(dy:Option Dying)(w:World)(listen:Bool)(h:d<=w.drawn):d<=(abY (stepG.oper P listen fr cs dy w)).drawn:=by
 unfold stepG.oper
 repeat' split
 all_goals first
  |exact h
  |exact aiV _ _ _ _ _ _ h
theorem atE{α:Type}{o:Option α}{x:GStep}{f:α->GStep}(h1:d<=(abY x).drawn)(h2:∀a,d<=(abY (f a)).drawn):d<=(abY (o.elim x f)).drawn:=by
 cases o
 ·exact h1
 ·exact h2 _
theorem atF(main:Bool)(fr:Frame)(cs:List Frame)(dy:Option Dying)(w:World)(listen:Bool)(h:d<=w.drawn):d<=(abY (stepG.exec P main listen fr cs dy w)).drawn:=by
 unfold stepG.exec;dsimp only
 repeat' split
 all_goals try refine atE ?_ (fun _=> ?_)
 all_goals try rw[abK]
 all_goals first
  |exact h
  |exact aiV _ _ _ _ _ _ h
  |exact atD _ _ _ _ _ h
  |exact akc (by assumption) h
  |exact aiU (by assumption) h
  |exact ad4 _ _ _ _ _ _ (akc (by assumption) h)
  |exact aiV _ _ _ _ _ _ (akc (by assumption) h)
  |exact aaK (by assumption) h
  |exact run_halt (by assumption) h
theorem ars(main:Bool)(g:Goroutine)(w:World)(listen:Bool)(h:d<=w.drawn):d<=(abY (stepG P main g w listen)).drawn:=by
 unfold stepG;dsimp only
 repeat' split
 all_goals first
  |exact avi _ _ _ h
  |exact atF _ _ _ _ _ _ h
  |exact aoW _ _ _ _ _ h
def alx:Stepped->World
 | .next m=>m.world
 | .ended _ w=>w
theorem akd{rest:Rest}{cs:Array CommCase}{w w':World}(e:waitingAt rest cs w=some w')(h:d<=w.drawn):d<=w'.drawn:=by
 unfold waitingAt at e;split at e
 ·split at e
  ·cases e;exact h
  ·cases e
 ·cases e;exact h
theorem ahv(rest:Rest)(gs:Array Goroutine)(i:Nat)(g:Goroutine)(cases_:Array CommCase)(bl:Bool)(sh:CommShape)(w:World)(h:d<=w.drawn):d<=(alx (communicate P rest gs i g cases_ bl sh w).1).drawn:=by
 unfold communicate;dsimp only
 repeat' split
 all_goals try dsimp only[alx]
 all_goals first
  |exact h
  |exact akd (by assumption) h
  |exact aaK (by assumption) h
  |exact run_halt (by assumption) h
  |exact aaK (by assumption) (aaK (by assumption) h)
  |exact run_halt (by assumption) (aaK (by assumption) h)
theorem aoX(gs:Array Goroutine)(rest:Rest)(w:World)(h:d<=w.drawn):d<=(alx (look P gs rest w)).drawn:=by
 unfold look;dsimp only
 repeat' split
 all_goals try dsimp only[alx]
 all_goals first
  |exact h
  |exact aaK (by assumption) h
  |exact run_halt (by assumption) h
theorem art(w:World)(c:Nat)(h:d<=w.drawn):d<=(drain w c).2.drawn:=by
 unfold drain;split
 ·exact h
 ·exact h
theorem ake(m:Machine)(k:Nat)(t:Timer)(a b:Nat)(h:d<=m.world.drawn):d<=(retime m k t a b).2.world.drawn:=by
 unfold retime;dsimp only;split
 ·exact art _ _ h
 ·exact h
theorem amz{m m':Machine}{var:Addr}{f:Nat->Timer->Value×Machine}{v:Value}(hf:∀k t,d<=(f k t).2.world.drawn)(e:timerOp.named m var f= .ok (v,m')):d<=m'.world.drawn:=by
 unfold timerOp.named at e;split at e
 ·rename_i k _;have:=hf k (m.rest.timers.getD k default);simp only[Except.ok.injEq] at e;rw[e] at this;exact this
 ·cases e
theorem aoY{m m':Machine}{var:Addr}(e:timerOp.opened m var=some m')(h:d<=m.world.drawn):d<=m'.world.drawn:=by
 unfold timerOp.opened at e;split at e
 ·split at e
  ·cases e;exact h
  ·cases e
 ·cases e;exact h
theorem anJ{m m':Machine}{op:TimerOp}{v:Value}(e:timerOp m op= .ok (v,m'))(h:d<=m.world.drawn):d<=m'.world.drawn:=by
 cases op with
 |new t=>
  simp only[timerOp] at e;split at e
  ·cases e;exact h
  ·split at e
   ·split at e
    ·cases e
    ·cases e;exact h
   ·cases e
 |stop var=>
  simp only[timerOp] at e;exact amz (fun k t=>ake _ _ _ _ _ h) e
 |reset var a b=>
  simp only[timerOp] at e;split at e
  ·rename_i m1 e1;exact amz (fun k t=>ake _ _ _ _ _ (aoY e1 h)) e
  ·cases e
 |deadline ctx a b c=>
  simp only[timerOp] at e;cases e;exact h
theorem aru(m:Machine)(i:Nat)(listen:Bool)(h:d<=m.world.drawn):d<=(alx (Go.runT P m i listen).1).drawn:=by
 unfold Go.runT;dsimp only;have h1:=ars (P:=P) (i==0) (m.gs.swapAt! i { (default:Goroutine) with status:= .finished}).1 m.world listen h;generalize stepG P (i==0) (m.gs.swapAt! i { (default:Goroutine) with status:= .finished}).1 m.world listen=r at h1 ⊢;cases r with
 |ended o w es=>exact h1
 |comm g c b sh w es=>exact ahv _ _ _ _ _ _ _ _ h1
 |go g w es=>exact h1
 |spawn g ch w es=>exact h1
 |count g w es=>
  dsimp only[abY] at h1 ⊢;split
  ·exact h1
  ·exact h1
 |alone g on w es=>exact h1
 |collect g w es=>exact aoX _ _ _ h1
 |watch g w es=>exact h1
 |newcoro g c dd w es=>exact h1
 |coroswitch g c ex w es=>
  dsimp only[abY] at h1 ⊢;split
  ·exact h1
  ·split
   ·exact amy (by assumption) h1
   ·exact h1
  ·exact h1
 |timer g op w es=>
  dsimp only[abY] at h1 ⊢;split
  ·rename_i v m2 e;show d<=m2.world.drawn;refine anJ e ?_;exact h1
  ·split
   ·exact amy (by assumption) h1
   ·exact h1
  ·exact h1
  ·exact h1
theorem arv(m:Machine)(k:Nat)(h:d<=m.world.drawn):d<=(alx (serve P m k)).drawn:=by
 unfold serve;dsimp only
 repeat' split
 all_goals exact h
theorem acn(m:Machine)(t:Nat)(h:d<=m.world.drawn):d<=(m.advanceTo t).world.drawn:=h
def amA(d:Nat):Stepped->Prop
 | .next m=>d<=m.world.drawn
 | .ended _ _=>True
def amB(d:Nat):Move->Prop
 | .goroutine m _=>d<=m.world.drawn
 | .machine s _=>amA d s
theorem agn{s:Stepped}(h:d<=(alx s).drawn):amA d s:=by
 cases s
 ·exact h
 ·trivial
theorem aiW(m:Machine)(h:d<=m.world.drawn):amB d (askOn P m):=by
 unfold askOn;dsimp only
 repeat' split
 all_goals try dsimp only[amB,amA]
 all_goals first
  |exact h
  |exact trivial
  |exact aaK (by assumption) h
  |exact agn (arv _ _ (aaK (by assumption) h))
  |exact acn _ _ (aaK (by assumption) h)
  |exact aaK (by assumption) (aaK (by assumption) h)
  |exact acn _ _ (aaK (by assumption) (aaK (by assumption) h))
  |exact aaK (by assumption) (aaK (by assumption) (aaK (by assumption) h))
  |exact aaK (by assumption) (aaK (by assumption) (aaK (by assumption) (aaK (by assumption) h)))
  |exact aaK (by assumption) (acn _ _ (aaK (by assumption) (aaK (by assumption) h)))
  |exact aaK (by assumption) (aaK (by assumption) (acn _ _ (aaK (by assumption) (aaK (by assumption) h))))
theorem atG(m:Machine)(h:d<=m.world.drawn):amB d (ask P m):=by
 unfold ask;split
 ·split
  ·trivial
  ·rename_i w1 e1;have h2:=aoX (P:=P) m.gs m.rest w1 (aaK e1 h);split
   ·rename_i m2 e2;rw[e2] at h2;exact aiW _ h2
   ·exact agn h2
  ·exact aiW _ (aaK (by assumption) h)
 ·exact aiW _ h
theorem atH(m:Machine)(h:d<=m.world.drawn):amB d (move P m):=by
 unfold move
 repeat' split
 all_goals first
  |exact h
  |exact trivial
  |exact atG _ h
theorem atI(m:Machine)(h:d<=m.world.drawn):amA d (step P m):=by
 have h1:=atH (P:=P) m h;unfold step stepT;split
 ·rename_i e;rw[e] at h1;exact agn (aru _ _ _ h1)
 ·rename_i e;rw[e] at h1;exact h1
theorem steps_le{m m':Machine}(hs:Steps P m m')(h:d<=m.world.drawn):d<=m'.world.drawn:=by
 obtain⟨n,hn⟩:=hs
 induction n generalizing m with
 |zero=>simp only[runN] at hn;cases hn;exact h
 |succ n ih=>
  have h1:=atI (P:=P) m h;simp only[runN] at hn;cases e:step P m with
  |next m1=>rw[e] at hn h1;exact ih h1 hn
  |ended o w=>rw[e] at hn;cases hn
end Drw
theorem Calls.drawn{P:Program}{f:FuncId}{args:Array Value}{w:World}{R:Ending->World->Prop}(h:Calls P f args w R):
 Calls P f args w fun e w'=>R e w'/\(e= .outgrown\/w.drawn<=w'.drawn):=by
 intro cs;obtain⟨e,w',fr,hR,hc,hf⟩:=h cs;refine⟨e,w',fr,⟨hR,?_⟩,hc,hf⟩;cases e with
 |returned v=>exact .inr (Drw.steps_le (d:=w.drawn) hc (af _))
 |panicked c=>exact .inr (Drw.steps_le (d:=w.drawn) hc (af _))
 |outgrown=>exact .inl rfl
end Go.Proofs.YtabfapijgfjflaaGreat
namespace Go.Proofs.YtabfapijgfjflaaGreat
open Go.RowKit Go.Sort
theorem ad5:∀(N:Nat) (t:T),t.size<=N->t.size<=1000000000000->∀(aM:Nat) (a:Option Addr) (c:Nat) (w:World),aM<=w.heap.size->aab aM w t.args a c->
 Calls Tryz.prog 159 #[tm t.head a t.args.length c] w fun e w'=>e= .returned (.int .i64 (t.size:Nat))/\Below w.heap.size w w':=by
 intro N
 induction N with
 |zero=>intro t ht;have:=T.size_pos t;omega
 |succ N ih=>
  intro t ht hbig aM a c w hn hA;have IH:=ae ih;clear ih;have hsz:=T.size_eq t;have HS:=ae hsz;clear hsz;have hlc:t.args.length<=c/\c<=maxLen:=⟨hA.1,hA.2.1⟩;unfold maxLen at hlc;obtain⟨hl1,hl2⟩:=hlc;generalize hL:t.args.length=len at*;have HL:=ae hL;clear hL;have HA:=ae hA;clear hA;go_enter Tryz.func159,Tryz.ntmps159;go_wp2
  go_loopw [3,4] (fun n i wr=>∃k:Nat,k<=len/\i= .int .i64 k/\n= .int .i64 (1+T.sizes (t.args.take k):Nat)/\Below (w.heap.size+1) (w.alloc (aaa t.head a len c)) wr)
   (fun _ i _=>len-(intOf i).toNat)
  case atStart=>exact⟨0,Nat.zero_le _,rfl,by simp[T.sizes],ag _ _⟩
  case round=>
   obtain⟨k,hk,rfl,rfl,hB⟩:=hrel;generalize hm':1+T.sizes (t.args.take k)=m at*
   have hmb:m<=1000000000000:=by
    have h3:=T.sizes_append (t.args.take k) (t.args.drop k);rw[List.take_append_drop] at h3;have:=HS.out;omega
   have HM:=ae hm';clear hm';have hbox:wr.cell? ⟨w.heap.size,1,none⟩=some (.slice a len c):=(hB.cell (p:=⟨w.heap.size,1,none⟩) (by simp)).trans (by simp[go_sem]);have HB:=ae hB;clear hB;by_cases hlt:k<len
   ·have hw:Below aM w wr:=((ag aM w).alloc hn _).trans (HB.out.mono (by omega));obtain⟨b,o,s,a',c',rfl,hbn,hs,hwf,hc1,hc2,hA'⟩:=(HA.out.below hw).elem (i:=k) (by rw[HL.out];exact hlt);have hs1:wr.heap.size≥w.heap.size+1:=by have:=HB.out.size;simpa using this
    have hsN:s.size<=N:=by have:=T.size_lt_of_mem hs;have:=HS.out;omega
    have hsb:s.size<=1000000000000:=by have:=T.size_lt_of_mem hs;have:=HS.out;omega
    have HSS:=ae hs;have HA':=ae hA';clear hs hA' hw hwf
    go_wp2_with fail
    refine(IH.out s hsN hsb aM a' c' wr (by omega) HA'.out).mono ?_;rintro e w2 ⟨rfl,hB2⟩;generalize hr:s.size=r at*;have HR:=ae hr;have HB2:=ae hB2;clear hr hB2;go_wp2
    go_roundw
    case rel=>
     refine⟨k+1,by omega,by go_num,?_,HB.out.trans (HB2.out.mono (by omega))⟩;have h1:=HM.out;have h2:=HR.out;have h3:=T.sizes_take HSS.out;rw[show((m:Int)+(r:Int))=((m+r:Nat):Int) from by omega];exact congrArg (fun x:Nat=>Value.int .i64 (x:Int)) (by omega)
    case measure=>simp[intOf];omega
   ·go_wp2;go_ret;refine⟨?_,(((ag w.heap.size w).alloc (af _) _).trans (HB.out.mono (by omega)))⟩;have h1:=HM.out;have h2:=HS.out;rw[List.take_of_length_le (by have:=HL.out;omega)] at h1;exact congrArg (fun x:Nat=>Ending.returned (.int .i64 (x:Int))) (by omega)
def ord(a b:Int):Int:=if a<b then-1 else if b<a then 1 else 0
theorem ac1{a b:Int}:ord a b=0↔a=b:=by unfold ord;split<;>(try split)<;>omega
theorem ago(a b:Int)(w:World):Calls Tryz.prog 165 #[.int .i64 a,.int .i64 b] w fun e w'=>e= .returned (.int .i64 (ord a b))/\w'=w:=by
 by_cases h1:a<b
 ·go_enter Tryz.func165,Tryz.ntmps165;go_wp2;go_ret;exact⟨by rw[ord,if_pos h1];rfl,rfl⟩
 ·by_cases h2:b<a
  ·go_enter Tryz.func165,Tryz.ntmps165;go_wp2;go_ret;exact⟨by rw[ord,if_neg (by omega),if_pos h2];rfl,rfl⟩
  ·go_enter Tryz.func165,Tryz.ntmps165;go_wp2;go_ret;exact⟨by rw[ord,if_neg (by omega),if_neg (by omega)];rfl,rfl⟩
mutual
def T.cmp:T->T->Int
 | .node h ts,t=>if(T.node h ts).size≠t.size then ord (T.node h ts).size t.size else if h≠t.head then ord h t.head else if ts.length≠t.args.length then ord ts.length t.args.length else T.cmps ts t.args
def T.cmps:List T->List T->Int
 |[],_=>0
 |_::_,[]=>0
 |x::xs,y::ys=>if T.cmp x y≠0 then T.cmp x y else T.cmps xs ys
end
theorem T.cmp_eq(x y:T):T.cmp x y=if x.size≠y.size then ord x.size y.size else if x.head≠y.head then ord x.head y.head else if x.args.length≠y.args.length then ord x.args.length y.args.length else T.cmps x.args y.args:=by
 cases x;cases y;rw[T.cmp];rfl
theorem amC{xs:List T}{j:Nat}{s:T}(h:xs[j]? =some s):xs.drop j=s::xs.drop (j+1):=by
 obtain⟨hi,e⟩:=ah.1 h;rw[aD hi,e]
def atJ(x y:T)(w2:World)(i:Value)(wr:World):Prop:=∃k:Nat,k<=x.args.length/\i= .int .i64 k/\Below w2.heap.size w2 wr/\T.cmps (x.args.drop k) (y.args.drop k)=T.cmp x y
theorem ahw:∀(N:Nat) (x y:T),x.size<=N->x.size<=1000000000000->y.size<=1000000000000->∀(aM:Nat) (a:Option Addr) (c:Nat) (a':Option Addr) (c':Nat) (w:World),aM<=w.heap.size->aab aM w x.args a c->aab aM w y.args a' c'->
 Calls Tryz.prog 119 #[tm x.head a x.args.length c,tm y.head a' y.args.length c'] w fun e w'=>e= .returned (.int .i64 (T.cmp x y))/\Below w.heap.size w w':=by
 intro N
 induction N with
 |zero=>intro t _ ht;have:=T.size_pos t;omega
 |succ N ih=>
  intro x y hx hxb hyb aM a c a' c' w hn hA hB;have IH:=ae ih;clear ih;have HA:=ae (hA.mono hn);have HB:=ae (hB.mono hn);clear hA hB hn aM;have hb2:Below w.heap.size w ((w.alloc (aaa x.head a x.args.length c)).alloc (aaa y.head a' y.args.length c')):=((ag _ w).alloc (af _) _).alloc (by simp) _;have e1:((w.alloc (aaa x.head a x.args.length c)).alloc (aaa y.head a' y.args.length c')).cell? ⟨w.heap.size,0,none⟩=some (.int .i64 x.head):=by simp[go_sem]
  have e2:((w.alloc (aaa x.head a x.args.length c)).alloc (aaa y.head a' y.args.length c')).cell? ⟨w.heap.size,1,none⟩=some (.slice a x.args.length c):=by simp[go_sem]
  have e3:((w.alloc (aaa x.head a x.args.length c)).alloc (aaa y.head a' y.args.length c')).cell? ⟨w.heap.size+1,0,none⟩=some (.int .i64 y.head):=by simp[go_sem]
  have e4:((w.alloc (aaa x.head a x.args.length c)).alloc (aaa y.head a' y.args.length c')).cell? ⟨w.heap.size+1,1,none⟩=some (.slice a' y.args.length c'):=by simp[go_sem]
  have hsz:((w.alloc (aaa x.head a x.args.length c)).alloc (aaa y.head a' y.args.length c')).heap.size=w.heap.size+2:=by simp
  have E:=ae (And.intro hb2 (And.intro e1 (And.intro e2 (And.intro e3 (And.intro e4 hsz)))));clear hb2 e1 e2 e3 e4 hsz;go_enter Tryz.func119,Tryz.ntmps119;go_wp2;generalize (w.alloc (aaa x.head a x.args.length c)).alloc (aaa y.head a' y.args.length c')=wB at E ⊢;obtain⟨hb2,e1,e2,e3,e4,hsz⟩:=E.out;have HBB:=ae hb2;have HSZ:=ae hsz
  have cX:∀W,Below wB.heap.size wB W->Calls Tryz.prog 159 #[tm x.head a x.args.length c] W fun e w'=>e= .returned (.int .i64 (x.size:Nat))/\Below W.heap.size W w':=fun W hW=>
   ad5 x.size x (af _) hxb w.heap.size a c W (aE HBB.out.size hW.size) (HA.out.below (HBB.out.trans (hW.mono HBB.out.size)))
  have cY:∀W,Below wB.heap.size wB W->Calls Tryz.prog 159 #[tm y.head a' y.args.length c'] W fun e w'=>e= .returned (.int .i64 (y.size:Nat))/\Below W.heap.size W w':=fun W hW=>
   ad5 y.size y (af _) hyb w.heap.size a' c' W (aE HBB.out.size hW.size) (HB.out.below (HBB.out.trans (hW.mono HBB.out.size)))
  have CX:=ae cX;have CY:=ae cY;clear cX cY hb2 hsz E;have E1:=ae e1;have E2:=ae e2;have E3:=ae e3;have E4:=ae e4;have f1:=fun d os=>cell_regrown e1 d os;have f2:=fun d os=>cell_regrown e2 d os;have f3:=fun d os=>cell_regrown e3 d os;have f4:=fun d os=>cell_regrown e4 d os;refine wp_region_quiet_below (by kernel_rfl) (by kernel_rfl) ?_
  repeat (quiet_step (first|with_reducible exact Calls.regrown_of (CX.out _ (below_regrown _ _ _))|with_reducible exact Calls.regrown_of (CY.out _ (below_regrown _ _ _))))
  refine wpQuiet_nil ?_;intro _ hw';obtain⟨⟨dq,osq⟩,hw''⟩:=hw';subst hw'';have hq:=below_regrown wB dq osq;generalize grow (redrawn wB dq) osq=w2 at hq ⊢;clear f1 f2 f3 f4 e1 e2 e3 e4;have hq1:w.heap.size+2<=w2.heap.size:=by have:=hq.size;have:=HSZ.out;omega
  have e1:=(hq.cell (p:=⟨w.heap.size,0,none⟩) (by have:=HSZ.out;simp;omega)).trans E1.out;have e2:=(hq.cell (p:=⟨w.heap.size,1,none⟩) (by have:=HSZ.out;simp;omega)).trans E2.out;have e3:=(hq.cell (p:=⟨w.heap.size+1,0,none⟩) (by have:=HSZ.out;simp;omega)).trans E3.out;have e4:=(hq.cell (p:=⟨w.heap.size+1,1,none⟩) (by have:=HSZ.out;simp;omega)).trans E4.out;have HQ:=ae hq;have HW2:=ae (HBB.out.trans (hq.mono HBB.out.size));clear hq;have hcmp:=T.cmp_eq x y;by_cases hs:x.size=y.size
  ·rw[if_neg (by omega)] at hcmp;have hs1:((x.size:Int)==(y.size:Int))=true:=by simp;omega
   have hs2:((x.size:Int) != (y.size:Int))=false:=by simp;omega
   have hs3:(x.size==y.size)=true:=by simp;omega
   have hs4:(x.size != y.size)=false:=by simp;omega
   clear hs;simp only[hs1,hs2,hs3,hs4,Bool.not_true];by_cases hh:x.head=y.head
   ·rw[if_neg (by simpa using hh)] at hcmp;have hh1:(x.head==y.head)=true:=by simp;omega
    have hh2:(x.head != y.head)=false:=by simp;omega
    clear hh;by_cases hl:x.args.length=y.args.length
    ·rw[if_neg (by omega)] at hcmp;have hl1:((x.args.length:Int)==(y.args.length:Int))=true:=by simp;omega
     have hl2:((x.args.length:Int) != (y.args.length:Int))=false:=by simp;omega
     have hl3:(x.args.length==y.args.length)=true:=by simp;omega
     have hl4:(x.args.length != y.args.length)=false:=by simp;omega
     have HL:=ae hl;have HC:=ae hcmp;clear hl hcmp;have hlc:x.args.length<=c/\c<=maxLen:=⟨HA.out.1,HA.out.2.1⟩;unfold maxLen at hlc;obtain⟨hlc1,hlc2⟩:=hlc;go_wp2
     go_loopw [5] (fun i wr=>atJ x y w2 i wr) (fun i _=>x.args.length-(intOf i).toNat)
     case atStart=>exact⟨0,Nat.zero_le _,rfl,ag _ _,by simpa using HC.out.symm⟩
     case round=>
      obtain⟨k,hk,rfl,hbr,hcr⟩:=hrel;clear e1 e2 e3 e4;have e2:=(HQ.out.trans (hbr.mono HQ.out.size)).cell (p:=⟨w.heap.size,1,none⟩) (by have:=HSZ.out;simp;omega) |>.trans E2.out;have e4:=(HQ.out.trans (hbr.mono HQ.out.size)).cell (p:=⟨w.heap.size+1,1,none⟩) (by have:=HSZ.out;simp;omega) |>.trans E4.out;have hsr:w2.heap.size<=wr.heap.size:=hbr.size;have HBR:=ae hbr;have HCR:=ae hcr;clear hbr hcr;have hw:Below w.heap.size w wr:=HW2.out.trans (HBR.out.mono (by omega));by_cases hlt:k<x.args.length
      ·obtain⟨b1,o1,s1,p1,q1,rfl,hbn1,hs1',hw1,hd1,hd2,hsA1⟩:=(HA.out.below hw).elem hlt;obtain⟨b2,o2,s2,p2,q2,rfl,hbn2,hs2',hw2,hd3,hd4,hsA2⟩:=(HB.out.below hw).elem (i:=k) (by have:=HL.out;omega);have hlt2:k<y.args.length:=by have:=HL.out;omega
       have hlc3:y.args.length<=c':=HB.out.1;have z1:s1.size<=x.size-1:=by have:=T.size_lt_of_mem hs1';have:=T.size_eq x;omega
       have z2:s2.size<=y.size-1:=by have:=T.size_lt_of_mem hs2';have:=T.size_eq y;omega
       have cI:∀W,Below wr.heap.size wr W->Calls Tryz.prog 119 #[tm s1.head p1 s1.args.length q1,tm s2.head p2 s2.args.length q2] W fun e w'=>e= .returned (.int .i64 (T.cmp s1 s2))/\Below W.heap.size W w':=fun W hW=>
        IH.out s1 s2 (by omega) (by omega) (by omega) w.heap.size p1 q1 p2 q2 W (aE hw.size hW.size) (hsA1.below (hW.mono hw.size)) (hsA2.below (hW.mono hw.size))
       have CI:=ae cI;have HW:=ae hw;have HS1':=ae hs1';have HS2':=ae hs2';clear cI hw hs1' hs2' hsA1 hsA2 hw1 hw2 hbn1 hbn2 z1 z2;have hi1:(0:Int)<=(k:Int):=by omega
       have hi2:(k:Int)<(x.args.length:Int):=by omega
       have hi3:(k:Int)<(y.args.length:Int):=by omega
       go_wp2;have g2:=fun d os=>cell_regrown e2 d os;have g4:=fun d os=>cell_regrown e4 d os;have g5:=fun d os=>cell_regrown hd1 d os;have g6:=fun d os=>cell_regrown hd2 d os;have g7:=fun d os=>cell_regrown hd3 d os;have g8:=fun d os=>cell_regrown hd4 d os;refine wp_region_quiet_below (by kernel_rfl) (by kernel_rfl) ?_
       repeat (quiet_step (first|with_reducible exact Calls.regrown_of (CI.out _ (below_regrown _ _ _))))
       refine wpQuiet_nil ?_;intro _ hw';obtain⟨⟨dq,osq⟩,hw''⟩:=hw';subst hw'';have hq3:=below_regrown wr dq osq;generalize grow (redrawn wr dq) osq=w3 at hq3 ⊢;have HQ3:=ae hq3;clear hq3 g2 g4 g5 g6 g7 g8
       have hstep:T.cmps (x.args.drop k) (y.args.drop k)=if T.cmp s1 s2≠0 then T.cmp s1 s2 else T.cmps (x.args.drop (k+1)) (y.args.drop (k+1)):=by
        rw[amC HS1'.out,amC HS2'.out,T.cmps]
       have HST:=ae (HCR.out.symm.trans hstep);clear hstep;by_cases hz:T.cmp s1 s2=0
       ·have hz1:(T.cmp s1 s2==0)=true:=by simp[hz]
        have hz2:(T.cmp s1 s2 != 0)=false:=by simp[hz]
        have HZ:=ae hz;clear hz;go_wp2;refine⟨?_,?_⟩
        ·exact⟨k+1,by omega,by go_num,HBR.out.trans (HQ3.out.mono HBR.out.size),by rw[HST.out,if_neg (by simpa using HZ.out)]⟩
        ·simp[intOf];omega
       ·have hz1:(T.cmp s1 s2==0)=false:=by simpa using hz
        have hz2:(T.cmp s1 s2 != 0)=true:=by simpa using hz
        go_wp2;go_ret;exact⟨by rw[HST.out,if_pos hz];rfl,HW.out.trans (HQ3.out.mono HW.out.size)⟩
      ·have hkl:k=x.args.length:=by omega
       go_wp2;go_ret;refine⟨?_,hw⟩;rw[←HCR.out,hkl,List.drop_length,T.cmps];rfl
    ·rw[if_pos (by omega)] at hcmp;have hl1:((x.args.length:Int)==(y.args.length:Int))=false:=by simp;omega
     have hl2:((x.args.length:Int) != (y.args.length:Int))=true:=by simp;omega
     have hl3:(x.args.length==y.args.length)=false:=by simp;omega
     have hl4:(x.args.length != y.args.length)=true:=by simp;omega
     have HC:=ae hcmp;clear hcmp
     go_wp2_with (go_at_call 165;refine(ago _ _ _).mono ?_;rintro e w' ⟨rfl,rfl⟩)
     go_ret;exact⟨by rw[HC.out];rfl,HW2.out⟩
   ·rw[if_pos (by simpa using hh)] at hcmp;have hh1:(x.head==y.head)=false:=by simpa using hh
    have hh2:(x.head != y.head)=true:=by simpa using hh
    have HC:=ae hcmp;clear hcmp
    go_wp2_with (go_at_call 165;refine(ago _ _ _).mono ?_;rintro e w' ⟨rfl,rfl⟩)
    go_ret;exact⟨by rw[HC.out];rfl,HW2.out⟩
  ·rw[if_pos (by omega)] at hcmp;have hs1:((x.size:Int)==(y.size:Int))=false:=by simp;omega
   have hs2:((x.size:Int) != (y.size:Int))=true:=by simp;omega
   have hs3:(x.size==y.size)=false:=by simp;omega
   have hs4:(x.size != y.size)=true:=by simp;omega
   have HC:=ae hcmp;clear hcmp;go_wp2;have f1:=fun d os=>cell_regrown e1 d os;have f2:=fun d os=>cell_regrown e2 d os;have f3:=fun d os=>cell_regrown e3 d os;have f4:=fun d os=>cell_regrown e4 d os;refine wp_region_quiet_below (by kernel_rfl) (by kernel_rfl) ?_
   repeat (quiet_step (first|with_reducible exact Calls.regrown_of (CX.out _ (HQ.out.trans ((below_regrown _ _ _).mono HQ.out.size)))|with_reducible exact Calls.regrown_of (CY.out _ (HQ.out.trans ((below_regrown _ _ _).mono HQ.out.size)))|with_reducible exact Calls.regrown_of ((ago _ _ _).mono fun _ _ h=>⟨h.1,h.2▸ag _ _⟩)))
   refine wpQuiet_nil ?_;intro _ hw';obtain⟨⟨dq,osq⟩,hw''⟩:=hw';subst hw'';go_wp2;go_ret;exact⟨by rw[HC.out];rfl,HW2.out.trans ((below_regrown w2 dq osq).mono (by omega))⟩
theorem aly(x y:T)(hx:x.size<=1000000000000)(hy:y.size<=1000000000000)(aM:Nat)(a:Option Addr)(c:Nat)(a':Option Addr)(c':Nat)(w:World)(hn:aM<=w.heap.size)(hA:aab aM w x.args a c)(hB:aab aM w y.args a' c'):
 Calls Tryz.prog 69 #[tm x.head a x.args.length c,tm y.head a' y.args.length c'] w fun e w'=>e= .returned (.bool (decide (T.cmp x y=0)))/\Below w.heap.size w w':=by
 have hC:∀W,Below w.heap.size w W->Calls Tryz.prog 119 #[tm x.head a x.args.length c,tm y.head a' y.args.length c'] W fun e w'=>e= .returned (.int .i64 (T.cmp x y))/\Below W.heap.size W w':=fun W hW=>
  ahw x.size x y (af _) hx hy aM a c a' c' W (aE hn hW.size) (hA.below (hW.mono hn)) (hB.below (hW.mono hn))
 have HC:=ae hC;clear hC hA hB;go_enter Tryz.func69,Tryz.ntmps69
 go_wp2_with fail
 have hb:Below w.heap.size w ((w.alloc (aaa x.head a x.args.length c)).alloc (aaa y.head a' y.args.length c')):=((ag _ w).alloc (af _) _).alloc (by simp) _;refine(HC.out _ hb).mono ?_;rintro e w2 ⟨rfl,hb2⟩;have HB2:=ae (hb.trans (hb2.mono (by simp;omega)));clear hb hb2;go_wp2;go_ret;refine⟨?_,HB2.out⟩;exact congrArg (fun q:Bool=>Ending.returned (.bool q)) (by rw[Bool.eq_iff_iff];simp)
end Go.Proofs.YtabfapijgfjflaaGreat
