/- QBa: joined of Drw, Tm. -/
import Derived.Calls
import Derived.RangeFuncNested
import Derived.Deep.LoopGhost
import Derived.WalkKit
import Derived.Lib.Hide
/- A run takes no draw back: behind any steps at least as much has been drawn as before. -/
namespace Go.Proofs.YtbdabdjpgmnejaaGreat
set_option linter.unusedVariables false
set_option linter.unusedSimpArgs false

namespace Drw

def resW {α : Type} : Result α → World
  | .ok _ w => w
  | .halt _ w => w

theorem ask_le {α : Type} {d : Nat} : ∀ (q : Ask α) (w : World), d ≤ w.drawn → d ≤ (w.ask q).2.drawn := by
  intro q
  induction q with
  | done a => intro w h; exact h
  | ask what range k ih =>
    intro w h
    unfold World.ask
    dsimp only
    split
    · exact ih _ _ h
    · exact ih _ _ (Nat.le_succ_of_le h)

theorem sys_le {d : Nat} (w : World) (c : Sys) (h : d ≤ w.drawn) : d ≤ (w.sys c).2.drawn := by
  have := ask_le (Kernel.perform c w.os) w h
  unfold World.sys
  split
  · exact h
  · rename_i e; rw [e] at this; exact this

theorem viewStore_le {P : Program} {w w' : World} {at_ : Addr} {u : TypeId} {k : Addr} {v : Value} {b : Bool} {l : List Addr} (h : w.viewStore P at_ u k v b = .ok (w', l)) : w'.drawn = w.drawn := by
  unfold World.viewStore at h
  simp only [bind, Except.bind, pure, Except.pure, throw, throwThe, MonadExceptOf.throw] at h
  repeat' (split at h)
  all_goals first
    | (cases h; done)
    | (simp at h; done)
    | (simp only [Except.ok.injEq, Prod.mk.injEq] at h; obtain ⟨rfl, _⟩ := h; rfl)

theorem farStore_le {P : Program} {w w' : World} {a : Addr} {v : Value} {b : Bool} {l : List Addr} (h : w.farStore P a v b = .ok (w', l)) : w'.drawn = w.drawn := by
  unfold World.farStore at h
  split at h
  · split at h
    · rename_i r e
      cases h
      exact viewStore_le e
    · cases h
  · cases h

theorem run_le {α : Type} {d : Nat} (P : Program) : ∀ (s : Sem α) (w : World), d ≤ w.drawn → d ≤ (resW (s.run P w)).drawn := by
  intro s
  induction s with
  | pure a => intro w h; exact h
  | load m a k ih =>
    intro w h
    simp only [Sem.run]
    split
    · exact ih _ _ h
    · split
      · exact ih _ _ h
      · exact h
  | store m a v k ih =>
    intro w h
    have key : d ≤ (resW (match w.cell? a with
      | some _ => if w.frozen? a then Result.halt (.unsupported (.unsafePointer "a write to bytes that a string shares")) w else k.run P (w.setCell a v)
      | none => match w.farStore P a v (m == .atomic) with
        | .ok (w, _) => k.run P w
        | .error h => .halt h w)).drawn := by
      split
      · split
        · exact h
        · exact ih _ h
      · split
        · rename_i e
          exact ih _ (by rw [farStore_le e]; exact h)
        · exact h
    cases v <;> first
      | (simp only [Sem.run]; exact key)
      | (simp only [Sem.run, resW]; exact h)
  | new o k ih => intro w h; simp only [Sem.run]; exact ih _ _ h
  | shape r k ih => intro w h; simp only [Sem.run]; exact ih _ _ h
  | freeze a n k ih =>
    intro w h
    simp only [Sem.run]
    refine ih _ ?_
    unfold World.freeze
    split
    · exact h
    · exact h
  | frozen a k ih => intro w h; simp only [Sem.run]; exact ih _ _ h
  | getObj r k ih =>
    intro w h
    simp only [Sem.run]
    split
    · exact h
    · exact ih _ _ h
    · exact h
  | setObj r o k ih =>
    intro w h
    simp only [Sem.run]
    split
    · exact h
    · exact ih _ h
    · exact h
  | choose q k ih =>
    intro w h
    simp only [Sem.run]
    split
    · exact ih _ _ h
    · exact ih _ _ (Nat.le_succ_of_le h)
  | sys c k ih => intro w h; simp only [Sem.run]; exact ih _ _ (sys_le w c h)
  | program k ih => intro w h; simp only [Sem.run]; exact ih _ _ h
  | mark m k ih => intro w h; simp only [Sem.run]; exact ih _ h
  | halt x => intro w h; exact h

theorem run_ok {α : Type} {d : Nat} {P : Program} {s : Sem α} {w w' : World} {v : α} (e : s.run P w = .ok v w') (h : d ≤ w.drawn) : d ≤ w'.drawn := by
  have := run_le P s w h; rw [e] at this; exact this
theorem run_halt {α : Type} {d : Nat} {P : Program} {s : Sem α} {w w' : World} {v : Halt} (e : s.run P w = .halt v w') (h : d ≤ w.drawn) : d ≤ w'.drawn := by
  have := run_le P s w h; rw [e] at this; exact this

theorem runT_le {α : Type} {d : Nat} (P : Program) : ∀ (s : Sem α) (w : World) (es : Array Event), d ≤ w.drawn → d ≤ (resW (s.runT P w es).1).drawn := by
  intro s
  induction s with
  | pure a => intro w es h; exact h
  | load m a k ih =>
    intro w es h
    simp only [Sem.runT]
    split
    · exact ih _ _ _ h
    · split
      · exact ih _ _ _ h
      · exact h
  | store m a v k ih =>
    intro w es h
    cases v
    all_goals
      simp only [Sem.runT]
      first
        | exact h
        | (split
           · split
             · exact h
             · exact ih _ _ h
           · split
             · rename_i e; exact ih _ _ (by rw [farStore_le e]; exact h)
             · exact h)
  | new o k ih => intro w es h; simp only [Sem.runT]; exact ih _ _ _ h
  | shape r k ih => intro w es h; simp only [Sem.runT]; exact ih _ _ _ h
  | freeze a n k ih =>
    intro w es h
    simp only [Sem.runT]
    refine ih _ _ ?_
    unfold World.freeze
    split
    · exact h
    · exact h
  | frozen a k ih => intro w es h; simp only [Sem.runT]; exact ih _ _ _ h
  | getObj r k ih =>
    intro w es h
    simp only [Sem.runT]
    split
    · exact h
    · exact ih _ _ _ h
    · exact h
  | setObj r o k ih =>
    intro w es h
    simp only [Sem.runT]
    split
    · exact h
    · exact ih _ _ h
    · exact h
  | choose q k ih =>
    intro w es h
    simp only [Sem.runT]
    split
    · exact ih _ _ _ h
    · exact ih _ _ _ (Nat.le_succ_of_le h)
  | sys c k ih => intro w es h; simp only [Sem.runT]; exact ih _ _ _ (sys_le w c h)
  | program k ih => intro w es h; simp only [Sem.runT]; exact ih _ _ _ h
  | mark m k ih => intro w es h; simp only [Sem.runT]; exact ih _ _ h
  | halt x => intro w es h; exact h

theorem runT_ok {α : Type} {d : Nat} {P : Program} {s : Sem α} {w w' : World} {es es' : Array Event} {v : α} (e : s.runT P w es = (.ok v w', es')) (h : d ≤ w.drawn) : d ≤ w'.drawn := by
  have := runT_le P s w es h; rw [e] at this; exact this
theorem runT_halt {α : Type} {d : Nat} {P : Program} {s : Sem α} {w w' : World} {es es' : Array Event} {v : Halt} (e : s.runT P w es = (.halt v w', es')) (h : d ≤ w.drawn) : d ≤ w'.drawn := by
  have := runT_le P s w es h; rw [e] at this; exact this

theorem fst_ok {α : Type} {d : Nat} {P : Program} {s : Sem α} {w w' : World} {es : Array Event} {v : α} (e : (s.runT P w es).1 = .ok v w') (h : d ≤ w.drawn) : d ≤ w'.drawn := by
  have := runT_le P s w es h; rw [e] at this; exact this
theorem fst_halt {α : Type} {d : Nat} {P : Program} {s : Sem α} {w w' : World} {es : Array Event} {v : Halt} (e : (s.runT P w es).1 = .halt v w') (h : d ≤ w.drawn) : d ≤ w'.drawn := by
  have := runT_le P s w es h; rw [e] at this; exact this

/-! ### Steps of a goroutine -/
def stepW : GStep → World
  | .go _ w _ => w
  | .comm _ _ _ _ w _ => w
  | .spawn _ _ w _ => w
  | .count _ w _ => w
  | .timer _ _ w _ => w
  | .alone _ _ w _ => w
  | .newcoro _ _ _ w _ => w
  | .coroswitch _ _ _ w _ => w
  | .collect _ w _ => w
  | .watch _ w _ => w
  | .ended _ w _ => w
theorem stepW_after (es : Array Event) (s : GStep) : stepW (s.after es) = stepW s := by cases s <;> rfl

variable {d : Nat} {P : Program}
theorem ite_le {c : Prop} [Decidable c] {x y : GStep} (h1 : d ≤ (stepW x).drawn) (h2 : d ≤ (stepW y).drawn) : d ≤ (stepW (if c then x else y)).drawn := by
  split
  · exact h1
  · exact h2

theorem endWith_le (w : World) (fd : Nat) (t : ByteArray) (o : Outcome) (h : d ≤ w.drawn) : d ≤ (stepW (endWith w fd t o)).drawn := by
  have h1 := sys_le w (.write fd t) h
  unfold endWith
  dsimp only
  split
  · rename_i e
    rw [e] at h1
    split <;> exact h1
  · rename_i e; rw [e] at h1; exact h1
  · rename_i e; rw [e] at h1; exact h1
theorem dieOf_le (fr : Frame) (l : List ByteArray) (m : String) (b : Bool) (w : World) (h : d ≤ w.drawn) : d ≤ (stepW (dieOf fr l m b w)).drawn := h
theorem endThrow_le (fr : Frame) (m : String) (w : World) (h : d ≤ w.drawn) : d ≤ (stepW (endThrow fr m w)).drawn := h
theorem throw_go {fr : Frame} {m : String} {w w2 : World} {g2 : Goroutine} {es : Array Event} (e : endThrow fr m w = .go g2 w2 es) (h : d ≤ w.drawn) : d ≤ w2.drawn := by
  have h2 := endThrow_le fr m w h
  rw [e] at h2
  exact h2
theorem endWith_ended {w w2 : World} {fd : Nat} {t : ByteArray} {o o2 : Outcome} {es : Array Event} (e : endWith w fd t o = .ended o2 w2 es) (h : d ≤ w.drawn) : d ≤ w2.drawn := by
  have h2 := endWith_le w fd t o h
  rw [e] at h2
  exact h2
theorem endPrinting_le (fr : Frame) (v : Value) (w : World) (h : d ≤ w.drawn) : d ≤ (stepW (endPrinting P fr v w)).drawn := by
  unfold endPrinting
  dsimp only
  repeat' split
  all_goals exact h
theorem endFatal_le (fr : Frame) (cs : List Frame) (dy : Option Dying) (m : String) (w : World) (h : d ≤ w.drawn) : d ≤ (stepW (endFatal P fr cs dy m w)).drawn := by
  unfold endFatal
  dsimp only
  split
  · rename_i e; exact run_ok e h
  · rename_i e; exact run_halt e h
  · rename_i e; exact run_halt e h
theorem writeOn_le (fr : Frame) (dy : Dying) (f : Fatal) (w : World) (h : d ≤ w.drawn) : d ≤ (stepW (writeOn P fr dy f w)).drawn := by
  unfold writeOn
  dsimp only
  split
  · exact h
  · split
    · rename_i e; exact runT_ok e h
    · rename_i e; exact runT_halt e h
    · rename_i e; exact runT_halt e h
    · rename_i e; exact runT_halt e h
theorem die_le (fr : Frame) (dy : Dying) (w : World) (h : d ≤ w.drawn) : d ≤ (stepW (die P fr dy w)).drawn := by
  unfold die
  split
  · exact writeOn_le _ _ _ _ h
  · split
    · split
      · exact h
      · exact endWith_le _ _ _ _ h
    · dsimp only
      split
      · exact h
      · split
        · rename_i e; exact run_ok e h
        · rename_i e; exact run_halt e h
      · rw [stepW_after]
        split
        · exact fst_ok (by assumption) h
        · exact fst_ok (by assumption) h
        · exact fst_halt (by assumption) h
        · exact endPrinting_le _ _ _ (fst_halt (by assumption) h)
        · exact h
      · exact h
theorem doReturn_le (main : Bool) (fr : Frame) (cs : List Frame) (dy : Option Dying) (v : Value) (w : World) (h : d ≤ w.drawn) : d ≤ (stepW (doReturn P main fr cs dy v w)).drawn := by
  unfold doReturn
  dsimp only
  repeat' split
  all_goals exact h
theorem callDeferred_le (fr : Frame) (cs : List Frame) (dy : Option Dying) (c : Deferred) (w : World) (h : d ≤ w.drawn) : d ≤ (stepW (callDeferred P fr cs dy c w)).drawn := by
  have h1 := runT_le P (invoke c.target c.args) w #[] h
  unfold callDeferred
  refine ite_le h ?_
  · generalize (invoke c.target c.args).runT P w #[] = r at h1 ⊢
    obtain ⟨r, es⟩ := r
    dsimp only
    rw [stepW_after]
    dsimp only at h1
    repeat' split
    all_goals first
      | exact h1
      | exact endFatal_le _ _ _ _ _ h1
      | exact endThrow_le _ _ _ h1
theorem unwind_le (main : Bool) (fr : Frame) (cs : List Frame) (dy : Option Dying) (w : World) (h : d ≤ w.drawn) : d ≤ (stepW (unwind P main fr cs dy w)).drawn := by
  unfold unwind
  split
  · rename_i block _ ds _
    have h1 := runT_le P (Instr.takeDeferred block) w #[] h
    generalize (Instr.takeDeferred block).runT P w #[] = r at h1 ⊢
    obtain ⟨r, es⟩ := r
    dsimp only
    rw [stepW_after]
    dsimp only at h1
    split
    · exact h1
    · exact h1
  · exact callDeferred_le _ _ _ _ _ h
  · split
    · exact h
    · split
      · exact h
      · split
        · exact h
        · split
          · split
            · exact h
            · split
              · rename_i e; exact run_ok e h
              · rename_i e; exact run_halt e h
              · rename_i e; exact run_halt e h
          · split
            · exact endPrinting_le _ _ _ h
            · exact h
    · split
      · exact doReturn_le _ _ _ _ _ _ h
      · rename_i fn _
        have h1 := runT_le P (results fn fr.tmps) w #[] h
        generalize (results fn fr.tmps).runT P w #[] = r at h1 ⊢
        obtain ⟨r, es⟩ := r
        dsimp only
        rw [stepW_after]
        dsimp only at h1
        split
        · exact doReturn_le _ _ _ _ _ _ h1
        · exact h1
        · exact h1
theorem early_le (fr : Frame) (cs : List Frame) (dy : Option Dying) (g : Nat) (w : World) (h : d ≤ w.drawn) : d ≤ (stepW (early P fr cs dy g w)).drawn := by
  unfold early
  dsimp only
  repeat' split
  all_goals try dsimp only [stepW]
  all_goals first
    | exact h
    | exact run_ok (by assumption) h
    | exact run_halt (by assumption) h

theorem apply_le (fr : Frame) (cs : List Frame) (dy : Option Dying) (s : Sem Next) (w : World) (listen : Bool) (h : d ≤ w.drawn) : d ≤ (stepW (stepG.apply P listen fr cs dy s w)).drawn := by
  have h1 : d ≤ (resW (if listen then s.runT P w #[] else (s.run P w, #[])).1).drawn := by
    split
    · exact runT_le P s w _ h
    · exact run_le P s w h
  unfold stepG.apply
  generalize (if listen then s.runT P w #[] else (s.run P w, #[])) = r at h1 ⊢
  obtain ⟨r, es⟩ := r
  dsimp only at h1 ⊢
  rw [stepW_after]
  split
  all_goals (repeat' split)
  all_goals try dsimp only [resW] at h1
  all_goals first
    | exact h1
    | exact endThrow_le _ _ _ h1
    | exact endFatal_le _ _ _ _ _ h1
    | exact early_le _ _ _ _ _ h1
theorem oper_le (fr : Frame) (cs : List Frame) (dy : Option Dying) (w : World) (listen : Bool) (h : d ≤ w.drawn) : d ≤ (stepW (stepG.oper P listen fr cs dy w)).drawn := by
  unfold stepG.oper
  repeat' split
  all_goals first
    | exact h
    | exact apply_le _ _ _ _ _ _ h
theorem elim_le {α : Type} {o : Option α} {x : GStep} {f : α → GStep} (h1 : d ≤ (stepW x).drawn) (h2 : ∀ a, d ≤ (stepW (f a)).drawn) : d ≤ (stepW (o.elim x f)).drawn := by
  cases o
  · exact h1
  · exact h2 _
theorem exec_le (main : Bool) (fr : Frame) (cs : List Frame) (dy : Option Dying) (w : World) (listen : Bool) (h : d ≤ w.drawn) : d ≤ (stepW (stepG.exec P main listen fr cs dy w)).drawn := by
  unfold stepG.exec
  dsimp only
  repeat' split
  all_goals try refine elim_le ?_ (fun _ => ?_)
  all_goals try rw [stepW_after]
  all_goals first
    | exact h
    | exact apply_le _ _ _ _ _ _ h
    | exact oper_le _ _ _ _ _ h
    | exact fst_ok (by assumption) h
    | exact fst_halt (by assumption) h
    | exact doReturn_le _ _ _ _ _ _ (fst_ok (by assumption) h)
    | exact apply_le _ _ _ _ _ _ (fst_ok (by assumption) h)
    | exact run_ok (by assumption) h
    | exact run_halt (by assumption) h
theorem stepG_le (main : Bool) (g : Goroutine) (w : World) (listen : Bool) (h : d ≤ w.drawn) : d ≤ (stepW (stepG P main g w listen)).drawn := by
  unfold stepG
  dsimp only
  repeat' split
  all_goals first
    | exact die_le _ _ _ h
    | exact exec_le _ _ _ _ _ _ h
    | exact unwind_le _ _ _ _ _ h

/-! ### Steps of a machine -/
def machW : Stepped → World
  | .next m => m.world
  | .ended _ w => w
theorem waitingAt_le {rest : Rest} {cs : Array CommCase} {w w' : World} (e : waitingAt rest cs w = some w') (h : d ≤ w.drawn) : d ≤ w'.drawn := by
  unfold waitingAt at e
  split at e
  · split at e
    · cases e; exact h
    · cases e
  · cases e; exact h
theorem communicate_le (rest : Rest) (gs : Array Goroutine) (i : Nat) (g : Goroutine) (cases_ : Array CommCase) (bl : Bool) (sh : CommShape) (w : World) (h : d ≤ w.drawn) : d ≤ (machW (communicate P rest gs i g cases_ bl sh w).1).drawn := by
  unfold communicate
  dsimp only
  repeat' split
  all_goals try dsimp only [machW]
  all_goals first
    | exact h
    | exact waitingAt_le (by assumption) h
    | exact run_ok (by assumption) h
    | exact run_halt (by assumption) h
    | exact run_ok (by assumption) (run_ok (by assumption) h)
    | exact run_halt (by assumption) (run_ok (by assumption) h)
theorem look_le (gs : Array Goroutine) (rest : Rest) (w : World) (h : d ≤ w.drawn) : d ≤ (machW (look P gs rest w)).drawn := by
  unfold look
  dsimp only
  repeat' split
  all_goals try dsimp only [machW]
  all_goals first
    | exact h
    | exact run_ok (by assumption) h
    | exact run_halt (by assumption) h
theorem drain_le (w : World) (c : Nat) (h : d ≤ w.drawn) : d ≤ (drain w c).2.drawn := by
  unfold drain
  split
  · exact h
  · exact h
theorem retime_le (m : Machine) (k : Nat) (t : Timer) (a b : Nat) (h : d ≤ m.world.drawn) : d ≤ (retime m k t a b).2.world.drawn := by
  unfold retime
  dsimp only
  split
  · exact drain_le _ _ h
  · exact h
theorem named_le {m m' : Machine} {var : Addr} {f : Nat → Timer → Value × Machine} {v : Value} (hf : ∀ k t, d ≤ (f k t).2.world.drawn) (e : timerOp.named m var f = .ok (v, m')) : d ≤ m'.world.drawn := by
  unfold timerOp.named at e
  split at e
  · rename_i k _
    have := hf k (m.rest.timers.getD k default)
    simp only [Except.ok.injEq] at e
    rw [e] at this
    exact this
  · cases e
theorem opened_le {m m' : Machine} {var : Addr} (e : timerOp.opened m var = some m') (h : d ≤ m.world.drawn) : d ≤ m'.world.drawn := by
  unfold timerOp.opened at e
  split at e
  · split at e
    · cases e; exact h
    · cases e
  · cases e; exact h
theorem timerOp_le {m m' : Machine} {op : TimerOp} {v : Value} (e : timerOp m op = .ok (v, m')) (h : d ≤ m.world.drawn) : d ≤ m'.world.drawn := by
  cases op with
  | new t =>
    simp only [timerOp] at e
    split at e
    · cases e; exact h
    · split at e
      · split at e
        · cases e
        · cases e; exact h
      · cases e
  | stop var =>
    simp only [timerOp] at e
    exact named_le (fun k t => retime_le _ _ _ _ _ h) e
  | reset var a b =>
    simp only [timerOp] at e
    split at e
    · rename_i m1 e1
      exact named_le (fun k t => retime_le _ _ _ _ _ (opened_le e1 h)) e
    · cases e
  | deadline ctx a b c =>
    simp only [timerOp] at e
    cases e
    exact h
theorem runT_mle (m : Machine) (i : Nat) (listen : Bool) (h : d ≤ m.world.drawn) : d ≤ (machW (Go.runT P m i listen).1).drawn := by
  unfold Go.runT
  dsimp only
  have h1 := stepG_le (P := P) (i == 0) (m.gs.swapAt! i { (default : Goroutine) with status := .finished }).1 m.world listen h
  generalize stepG P (i == 0) (m.gs.swapAt! i { (default : Goroutine) with status := .finished }).1 m.world listen = r at h1 ⊢
  cases r with
  | ended o w es => exact h1
  | comm g c b sh w es => exact communicate_le _ _ _ _ _ _ _ _ h1
  | go g w es => exact h1
  | spawn g ch w es => exact h1
  | count g w es =>
    dsimp only [stepW] at h1 ⊢
    split
    · exact h1
    · exact h1
  | alone g on w es => exact h1
  | collect g w es => exact look_le _ _ _ h1
  | watch g w es => exact h1
  | newcoro g c dd w es => exact h1
  | coroswitch g c ex w es =>
    dsimp only [stepW] at h1 ⊢
    split
    · exact h1
    · split
      · exact throw_go (by assumption) h1
      · exact h1
    · exact h1
  | timer g op w es =>
    dsimp only [stepW] at h1 ⊢
    split
    · rename_i v m2 e
      show d ≤ m2.world.drawn
      refine timerOp_le e ?_
      exact h1
    · split
      · exact throw_go (by assumption) h1
      · exact h1
    · exact h1
    · exact h1
theorem serve_le (m : Machine) (k : Nat) (h : d ≤ m.world.drawn) : d ≤ (machW (serve P m k)).drawn := by
  unfold serve
  dsimp only
  repeat' split
  all_goals exact h
theorem advanceTo_le (m : Machine) (t : Nat) (h : d ≤ m.world.drawn) : d ≤ (m.advanceTo t).world.drawn := h
def stepOk (d : Nat) : Stepped → Prop
  | .next m => d ≤ m.world.drawn
  | .ended _ _ => True
def moveOk (d : Nat) : Move → Prop
  | .goroutine m _ => d ≤ m.world.drawn
  | .machine s _ => stepOk d s
theorem stepOk_of {s : Stepped} (h : d ≤ (machW s).drawn) : stepOk d s := by
  cases s
  · exact h
  · trivial
theorem askOn_le (m : Machine) (h : d ≤ m.world.drawn) : moveOk d (askOn P m) := by
  unfold askOn
  dsimp only
  repeat' split
  all_goals try dsimp only [moveOk, stepOk]
  all_goals first
    | exact h
    | exact trivial
    | exact run_ok (by assumption) h
    | exact stepOk_of (serve_le _ _ (run_ok (by assumption) h))
    | exact advanceTo_le _ _ (run_ok (by assumption) h)
    | exact run_ok (by assumption) (run_ok (by assumption) h)
    | exact advanceTo_le _ _ (run_ok (by assumption) (run_ok (by assumption) h))
    | exact run_ok (by assumption) (run_ok (by assumption) (run_ok (by assumption) h))
    | exact run_ok (by assumption) (run_ok (by assumption) (run_ok (by assumption) (run_ok (by assumption) h)))
    | exact run_ok (by assumption) (advanceTo_le _ _ (run_ok (by assumption) (run_ok (by assumption) h)))
    | exact run_ok (by assumption) (run_ok (by assumption) (advanceTo_le _ _ (run_ok (by assumption) (run_ok (by assumption) h))))
theorem ask_mle (m : Machine) (h : d ≤ m.world.drawn) : moveOk d (ask P m) := by
  unfold ask
  split
  · split
    · trivial
    · rename_i w1 e1
      have h2 := look_le (P := P) m.gs m.rest w1 (run_ok e1 h)
      split
      · rename_i m2 e2
        rw [e2] at h2
        exact askOn_le _ h2
      · exact stepOk_of h2
    · exact askOn_le _ (run_ok (by assumption) h)
  · exact askOn_le _ h
theorem move_le (m : Machine) (h : d ≤ m.world.drawn) : moveOk d (move P m) := by
  unfold move
  repeat' split
  all_goals first
    | exact h
    | exact trivial
    | exact ask_mle _ h
theorem step_le (m : Machine) (h : d ≤ m.world.drawn) : stepOk d (step P m) := by
  have h1 := move_le (P := P) m h
  unfold step stepT
  split
  · rename_i e; rw [e] at h1; exact stepOk_of (runT_mle _ _ _ h1)
  · rename_i e; rw [e] at h1; exact h1
theorem steps_le {m m' : Machine} (hs : Steps P m m') (h : d ≤ m.world.drawn) : d ≤ m'.world.drawn := by
  obtain ⟨n, hn⟩ := hs
  induction n generalizing m with
  | zero => simp only [runN] at hn; cases hn; exact h
  | succ n ih =>
    have h1 := step_le (P := P) m h
    simp only [runN] at hn
    cases e : step P m with
    | next m1 => rw [e] at hn h1; exact ih h1 hn
    | ended o w => rw [e] at hn; cases hn
end Drw

/-- What a call that returns has drawn is at least what was drawn before. -/
theorem Calls.drawn {P : Program} {f : FuncId} {args : Array Value} {w : World} {R : Ending → World → Prop} (h : Calls P f args w R) :
    Calls P f args w fun e w' => R e w' ∧ (e = .outgrown ∨ w.drawn ≤ w'.drawn) := by
  intro cs
  obtain ⟨e, w', fr, hR, hc, hf⟩ := h cs
  refine ⟨e, w', fr, ⟨hR, ?_⟩, hc, hf⟩
  cases e with
  | returned v => exact .inr (Drw.steps_le (d := w.drawn) hc (Nat.le_refl _))
  | panicked c => exact .inr (Drw.steps_le (d := w.drawn) hc (Nat.le_refl _))
  | outgrown => exact .inl rfl

end Go.Proofs.YtbdabdjpgmnejaaGreat

/- Terms as trees, and what it means that a term lies in memory: plain definitions and lemmas; no program is named here. -/
namespace Go.Proofs.YtbdabdjpgmnejaaGreat
set_option linter.unusedVariables false
set_option linter.unusedSimpArgs false
open Go.RowKit

inductive T where
  | node : Int → List T → T

def T.head : T → Int
  | .node h _ => h
def T.args : T → List T
  | .node _ ts => ts

mutual
def T.size : T → Nat
  | .node _ ts => 1 + T.sizes ts
def T.sizes : List T → Nat
  | [] => 0
  | t :: ts => t.size + T.sizes ts
end

mutual
def T.subs (l : Nat) : T → List (Nat × T)
  | .node h ts => (l, .node h ts) :: T.subss (l + 1) ts
def T.subss (l : Nat) : List T → List (Nat × T)
  | [] => []
  | t :: ts => T.subs l t ++ T.subss l ts
end

theorem T.eta (t : T) : T.node t.head t.args = t := by cases t; rfl
theorem T.size_eq (t : T) : t.size = 1 + T.sizes t.args := by cases t; simp [T.size, T.args]
theorem T.size_pos (t : T) : 0 < t.size := by rw [T.size_eq]; omega
theorem T.sizes_append (a b : List T) : T.sizes (a ++ b) = T.sizes a + T.sizes b := by
  induction a with
  | nil => simp [T.sizes]
  | cons t ts ih => simp [T.sizes, ih]; omega
theorem T.sizes_ge_length (a : List T) : a.length ≤ T.sizes a := by
  induction a with
  | nil => simp
  | cons t ts ih => simp [T.sizes]; have := T.size_pos t; omega
theorem T.sizes_drop {ts : List T} {i : Nat} {t : T} (h : ts[i]? = some t) : T.sizes (ts.drop i) = t.size + T.sizes (ts.drop (i + 1)) := by
  obtain ⟨hi, e⟩ := List.getElem?_eq_some_iff.1 h
  rw [List.drop_eq_getElem_cons hi, e, T.sizes]
theorem T.sizes_take {ts : List T} {i : Nat} {t : T} (h : ts[i]? = some t) : T.sizes (ts.take (i + 1)) = T.sizes (ts.take i) + t.size := by
  obtain ⟨hi, e⟩ := List.getElem?_eq_some_iff.1 h
  rw [List.take_succ_eq_append_getElem hi, T.sizes_append, e]; simp [T.sizes]
theorem T.size_lt_of_mem {ts : List T} {i : Nat} {t : T} (h : ts[i]? = some t) : t.size ≤ T.sizes ts := by
  have h1 := T.sizes_append (ts.take i) (ts.drop i)
  rw [List.take_append_drop, T.sizes_drop h] at h1
  omega
theorem T.subs_eq (l : Nat) (t : T) : T.subs l t = (l, t) :: T.subss (l + 1) t.args := by cases t; simp [T.subs, T.args]
theorem T.subss_drop {ts : List T} {i : Nat} {t : T} (l : Nat) (h : ts[i]? = some t) : T.subss l (ts.drop i) = T.subs l t ++ T.subss l (ts.drop (i + 1)) := by
  obtain ⟨hi, e⟩ := List.getElem?_eq_some_iff.1 h
  rw [List.drop_eq_getElem_cons hi, e, T.subss]

mutual
theorem T.subs_length (l : Nat) : (t : T) → (T.subs l t).length = t.size
  | .node h ts => by simp [T.subs, T.size, T.subss_length (l + 1) ts]; omega
theorem T.subss_length (l : Nat) : (ts : List T) → (T.subss l ts).length = T.sizes ts
  | [] => by simp [T.subss, T.sizes]
  | t :: ts => by simp [T.subss, T.sizes, T.subs_length l t, T.subss_length l ts]
end

/-! ### A term in memory -/
mutual
def IsT (n₀ : Nat) (w : World) : T → Nat → Nat → Prop
  | .node h ts, b, o => (Lit.int .i64 h).wf = true ∧ w.cell? ⟨b, o, none⟩ = some (.int .i64 h) ∧ ∃ a c, w.cell? ⟨b, o + 1, none⟩ = some (.slice a ts.length c) ∧ ts.length ≤ c ∧ c ≤ maxLen ∧
      (ts = [] ∨ ∃ b' o', a = some ⟨b', o', none⟩ ∧ b' < n₀ ∧ IsRow n₀ w ts b' o')
def IsRow (n₀ : Nat) (w : World) : List T → Nat → Nat → Prop
  | [], _, _ => True
  | t :: ts, b, o => IsT n₀ w t b o ∧ IsRow n₀ w ts b (o + 2)
end

/-- The slice value '.slice a n c' holds the terms ts (n of them), their blocks below n₀. -/
def IsArgs (n₀ : Nat) (w : World) (ts : List T) (a : Option Addr) (c : Nat) : Prop :=
  ts.length ≤ c ∧ c ≤ maxLen ∧ (ts = [] ∨ ∃ b o, a = some ⟨b, o, none⟩ ∧ b < n₀ ∧ IsRow n₀ w ts b o)

theorem isT_iff {n₀ : Nat} {w : World} {t : T} {b o : Nat} : IsT n₀ w t b o ↔ (Lit.int .i64 t.head).wf = true ∧ w.cell? ⟨b, o, none⟩ = some (.int .i64 t.head) ∧ ∃ a c, w.cell? ⟨b, o + 1, none⟩ = some (.slice a t.args.length c) ∧ IsArgs n₀ w t.args a c := by
  cases t; simp [IsT, T.head, T.args, IsArgs]

theorem IsRow.at {n₀ : Nat} {w : World} {ts : List T} {b o : Nat} (h : IsRow n₀ w ts b o) {i : Nat} {t : T} (hi : ts[i]? = some t) : IsT n₀ w t b (o + i * 2) := by
  induction ts generalizing o i with
  | nil => simp at hi
  | cons s ts ih =>
    simp only [IsRow] at h
    cases i with
    | zero => simp at hi; subst hi; exact h.1
    | succ i =>
      have := ih h.2 (i := i) (by simpa using hi)
      rw [show o + (i + 1) * 2 = o + 2 + i * 2 from by omega]; exact this

theorem IsRow.drop {n₀ : Nat} {w : World} {ts : List T} {b o : Nat} (h : IsRow n₀ w ts b o) (i : Nat) (hi : i ≤ ts.length) : IsRow n₀ w (ts.drop i) b (o + i * 2) := by
  induction ts generalizing o i with
  | nil => simp [IsRow]
  | cons s ts ih =>
    cases i with
    | zero => simpa using h
    | succ i =>
      simp only [IsRow] at h
      have := ih h.2 i (by simpa using hi)
      rw [List.drop_succ_cons, show o + (i + 1) * 2 = o + 2 + i * 2 from by omega]; exact this

/- What a change of the world must keep that terms stay: the cells of blocks below n₀, and of the rows own block. -/
mutual
theorem IsT.keep {n₀ : Nat} {w w' : World} (h : ∀ b o, b < n₀ → w.cell? ⟨b, o, none⟩ ≠ none → w'.cell? ⟨b, o, none⟩ = w.cell? ⟨b, o, none⟩) :
    (t : T) → ∀ {b o : Nat}, (∀ o, w.cell? ⟨b, o, none⟩ ≠ none → w'.cell? ⟨b, o, none⟩ = w.cell? ⟨b, o, none⟩) → IsT n₀ w t b o → IsT n₀ w' t b o
  | .node x ts, b, o, hb, ht => by
    simp only [IsT] at ht ⊢
    obtain ⟨h0, h1, a, c, h2, h3, h4, h5⟩ := ht
    refine ⟨h0, (hb o (by rw [h1]; simp)).trans h1, a, c, (hb (o + 1) (by rw [h2]; simp)).trans h2, h3, h4, ?_⟩
    rcases h5 with h5 | ⟨b', o', h5, h6, h7⟩
    · exact .inl h5
    · exact .inr ⟨b', o', h5, h6, IsRow.keep h ts (fun o => h b' o h6) h7⟩
theorem IsRow.keep {n₀ : Nat} {w w' : World} (h : ∀ b o, b < n₀ → w.cell? ⟨b, o, none⟩ ≠ none → w'.cell? ⟨b, o, none⟩ = w.cell? ⟨b, o, none⟩) :
    (ts : List T) → ∀ {b o : Nat}, (∀ o, w.cell? ⟨b, o, none⟩ ≠ none → w'.cell? ⟨b, o, none⟩ = w.cell? ⟨b, o, none⟩) → IsRow n₀ w ts b o → IsRow n₀ w' ts b o
  | [], b, o, hb, ht => by simp [IsRow]
  | t :: ts, b, o, hb, ht => by
    simp only [IsRow] at ht ⊢
    exact ⟨IsT.keep h t hb ht.1, IsRow.keep h ts hb ht.2⟩
end

mutual
theorem IsT.mono {n₀ n₁ : Nat} {w : World} (h : n₀ ≤ n₁) : (t : T) → ∀ {b o : Nat}, IsT n₀ w t b o → IsT n₁ w t b o
  | .node x ts, b, o, ht => by
    simp only [IsT] at ht ⊢
    obtain ⟨h0, h1, a, c, h2, h3, h4, h5⟩ := ht
    refine ⟨h0, h1, a, c, h2, h3, h4, ?_⟩
    rcases h5 with h5 | ⟨b', o', h5, h6, h7⟩
    · exact .inl h5
    · exact .inr ⟨b', o', h5, by omega, IsRow.mono h ts h7⟩
theorem IsRow.mono {n₀ n₁ : Nat} {w : World} (h : n₀ ≤ n₁) : (ts : List T) → ∀ {b o : Nat}, IsRow n₀ w ts b o → IsRow n₁ w ts b o
  | [], b, o, ht => by simp [IsRow]
  | t :: ts, b, o, ht => by
    simp only [IsRow] at ht ⊢
    exact ⟨IsT.mono h t ht.1, IsRow.mono h ts ht.2⟩
end

theorem IsRow.below {n₀ : Nat} {w w' : World} {ts : List T} {b o : Nat} (ht : IsRow n₀ w ts b o) (h : Below n₀ w w') (hb : b < n₀) : IsRow n₀ w' ts b o :=
  IsRow.keep (fun b o hb _ => h.cell (p := ⟨b, o, none⟩) hb) ts (fun o _ => h.cell (p := ⟨b, o, none⟩) hb) ht
theorem IsT.below {n₀ : Nat} {w w' : World} {t : T} {b o : Nat} (ht : IsT n₀ w t b o) (h : Below n₀ w w') (hb : b < n₀) : IsT n₀ w' t b o :=
  IsT.keep (fun b o hb _ => h.cell (p := ⟨b, o, none⟩) hb) t (fun o _ => h.cell (p := ⟨b, o, none⟩) hb) ht
theorem IsArgs.below {n₀ : Nat} {w w' : World} {ts : List T} {a : Option Addr} {c : Nat} (ht : IsArgs n₀ w ts a c) (h : Below n₀ w w') : IsArgs n₀ w' ts a c := by
  obtain ⟨h1, h2, h3⟩ := ht
  refine ⟨h1, h2, ?_⟩
  rcases h3 with h3 | ⟨b, o, h3, h4, h5⟩
  · exact .inl h3
  · exact .inr ⟨b, o, h3, h4, h5.below h h4⟩
theorem IsArgs.mono {n₀ n₁ : Nat} {w : World} {ts : List T} {a : Option Addr} {c : Nat} (ht : IsArgs n₀ w ts a c) (h : n₀ ≤ n₁) : IsArgs n₁ w ts a c := by
  obtain ⟨h1, h2, h3⟩ := ht
  refine ⟨h1, h2, ?_⟩
  rcases h3 with h3 | ⟨b, o, h3, h4, h5⟩
  · exact .inl h3
  · exact .inr ⟨b, o, h3, by omega, h5.mono h⟩

/-- The element i of a slice of terms: its two cells, and what its own arguments are. -/
theorem IsArgs.elem {n₀ : Nat} {w : World} {ts : List T} {a : Option Addr} {c : Nat} (h : IsArgs n₀ w ts a c) {i : Nat} (hi : i < ts.length) :
    ∃ (b o : Nat) (t : T) (a' : Option Addr) (c' : Nat), a = some ⟨b, o, none⟩ ∧ b < n₀ ∧ ts[i]? = some t ∧ (Lit.int .i64 t.head).wf = true ∧ w.cell? ⟨b, o + i * 2, none⟩ = some (.int .i64 t.head) ∧
      w.cell? ⟨b, o + i * 2 + 1, none⟩ = some (.slice a' t.args.length c') ∧ IsArgs n₀ w t.args a' c' := by
  obtain ⟨_, _, h3⟩ := h
  rcases h3 with rfl | ⟨b, o, rfl, h4, h5⟩
  · simp at hi
  · have ht := h5.at (List.getElem?_eq_getElem hi)
    obtain ⟨p0, p1, a', c', p2, p3⟩ := isT_iff.1 ht
    exact ⟨b, o, _, a', c', rfl, h4, List.getElem?_eq_getElem hi, p0, p1, p2, p3⟩

/-- For an arm of a walk that is to stop at an operation. -/
theorem stopHere {p : Prop} (h : Hid p) : p := h

/-- The least number trick for a loop inside a fence whose measure stands in no slot. -/
theorem leastOf_lt {p q : Nat → Prop} {k : Nat} (hq : q k) (hk : k < leastOf p) : leastOf q < leastOf p :=
  Nat.lt_of_le_of_lt ((leastOf_spec ⟨k, hq⟩).2 k hq) hk

end Go.Proofs.YtbdabdjpgmnejaaGreat
