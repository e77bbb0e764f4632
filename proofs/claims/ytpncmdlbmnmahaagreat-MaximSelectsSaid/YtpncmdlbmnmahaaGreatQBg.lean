/- QBg: joined of Drw, Ref. -/
import Derived.Calls
import Derived.Test.YtpncmdlbmnmahaaGreatQBb
import Derived.Lib.QuietBelow
import Derived.BigQuiet
/- A run takes no draw back: behind any steps at least as much has been drawn as before. -/
namespace Go.Proofs.YtpncmdlbmnmahaaGreat
set_option linter.unusedVariables false
set_option linter.unusedSimpArgs false
namespace Drw
def resW {α : Type} : Result α → World
  | .ok _ w => w
  | .halt _ w => w
theorem ask_le {α : Type} {d : Nat} : ∀ (q : Ask α) (w : World), d ≤ w.drawn → d ≤ (w.ask q).2.drawn := by
  intro q
  induction q with
  | done a => intro w h; exact h
  | ask what range k ih =>
    intro w h
    unfold World.ask
    dsimp only
    split
    · exact ih _ _ h
    · exact ih _ _ (Nat.le_succ_of_le h)
theorem sys_le {d : Nat} (w : World) (c : Sys) (h : d ≤ w.drawn) : d ≤ (w.sys c).2.drawn := by
  have := ask_le (Kernel.perform c w.os) w h
  unfold World.sys
  split
  · exact h
  · rename_i e; rw [e] at this; exact this
theorem viewStore_le {P : Program} {w w' : World} {at_ : Addr} {u : TypeId} {k : Addr} {v : Value} {b : Bool} {l : List Addr} (h : w.viewStore P at_ u k v b = .ok (w', l)) : w'.drawn = w.drawn := by
  unfold World.viewStore at h
  simp only [bind, Except.bind, pure, Except.pure, throw, throwThe, MonadExceptOf.throw] at h
  repeat' (split at h)
  all_goals first
    | (cases h; done)
    | (simp at h; done)
    | (simp only [Except.ok.injEq, Prod.mk.injEq] at h; obtain ⟨rfl, _⟩ := h; rfl)
theorem farStore_le {P : Program} {w w' : World} {a : Addr} {v : Value} {b : Bool} {l : List Addr} (h : w.farStore P a v b = .ok (w', l)) : w'.drawn = w.drawn := by
  unfold World.farStore at h
  split at h
  · split at h
    · rename_i r e
      cases h
      exact viewStore_le e
    · cases h
  · cases h
theorem run_le {α : Type} {d : Nat} (P : Program) : ∀ (s : Sem α) (w : World), d ≤ w.drawn → d ≤ (resW (s.run P w)).drawn := by
  intro s
  induction s with
  | pure a => intro w h; exact h
  | load m a k ih =>
    intro w h
    simp only [Sem.run]
    split
    · exact ih _ _ h
    · split
      · exact ih _ _ h
      · exact h
  | store m a v k ih =>
    intro w h
    have key : d ≤ (resW (match w.cell? a with
      | some _ => if w.frozen? a then Result.halt (.unsupported (.unsafePointer "a write to bytes that a string shares")) w else k.run P (w.setCell a v)
      | none => match w.farStore P a v (m == .atomic) with
        | .ok (w, _) => k.run P w
        | .error h => .halt h w)).drawn := by
      split
      · split
        · exact h
        · exact ih _ h
      · split
        · rename_i e
          exact ih _ (by rw [farStore_le e]; exact h)
        · exact h
    cases v <;> first
      | (simp only [Sem.run]; exact key)
      | (simp only [Sem.run, resW]; exact h)
  | new o k ih => intro w h; simp only [Sem.run]; exact ih _ _ h
  | shape r k ih => intro w h; simp only [Sem.run]; exact ih _ _ h
  | freeze a n k ih =>
    intro w h
    simp only [Sem.run]
    refine ih _ ?_
    unfold World.freeze
    split
    · exact h
    · exact h
  | frozen a k ih => intro w h; simp only [Sem.run]; exact ih _ _ h
  | getObj r k ih =>
    intro w h
    simp only [Sem.run]
    split
    · exact h
    · exact ih _ _ h
    · exact h
  | setObj r o k ih =>
    intro w h
    simp only [Sem.run]
    split
    · exact h
    · exact ih _ h
    · exact h
  | choose q k ih =>
    intro w h
    simp only [Sem.run]
    split
    · exact ih _ _ h
    · exact ih _ _ (Nat.le_succ_of_le h)
  | sys c k ih => intro w h; simp only [Sem.run]; exact ih _ _ (sys_le w c h)
  | program k ih => intro w h; simp only [Sem.run]; exact ih _ _ h
  | mark m k ih => intro w h; simp only [Sem.run]; exact ih _ h
  | halt x => intro w h; exact h
theorem run_ok {α : Type} {d : Nat} {P : Program} {s : Sem α} {w w' : World} {v : α} (e : s.run P w = .ok v w') (h : d ≤ w.drawn) : d ≤ w'.drawn := by
  have := run_le P s w h; rw [e] at this; exact this
theorem run_halt {α : Type} {d : Nat} {P : Program} {s : Sem α} {w w' : World} {v : Halt} (e : s.run P w = .halt v w') (h : d ≤ w.drawn) : d ≤ w'.drawn := by
  have := run_le P s w h; rw [e] at this; exact this
theorem runT_le {α : Type} {d : Nat} (P : Program) : ∀ (s : Sem α) (w : World) (es : Array Event), d ≤ w.drawn → d ≤ (resW (s.runT P w es).1).drawn := by
  intro s
  induction s with
  | pure a => intro w es h; exact h
  | load m a k ih =>
    intro w es h
    simp only [Sem.runT]
    split
    · exact ih _ _ _ h
    · split
      · exact ih _ _ _ h
      · exact h
  | store m a v k ih =>
    intro w es h
    cases v
    all_goals
      simp only [Sem.runT]
      first
        | exact h
        | (split
           · split
             · exact h
             · exact ih _ _ h
           · split
             · rename_i e; exact ih _ _ (by rw [farStore_le e]; exact h)
             · exact h)
  | new o k ih => intro w es h; simp only [Sem.runT]; exact ih _ _ _ h
  | shape r k ih => intro w es h; simp only [Sem.runT]; exact ih _ _ _ h
  | freeze a n k ih =>
    intro w es h
    simp only [Sem.runT]
    refine ih _ _ ?_
    unfold World.freeze
    split
    · exact h
    · exact h
  | frozen a k ih => intro w es h; simp only [Sem.runT]; exact ih _ _ _ h
  | getObj r k ih =>
    intro w es h
    simp only [Sem.runT]
    split
    · exact h
    · exact ih _ _ _ h
    · exact h
  | setObj r o k ih =>
    intro w es h
    simp only [Sem.runT]
    split
    · exact h
    · exact ih _ _ h
    · exact h
  | choose q k ih =>
    intro w es h
    simp only [Sem.runT]
    split
    · exact ih _ _ _ h
    · exact ih _ _ _ (Nat.le_succ_of_le h)
  | sys c k ih => intro w es h; simp only [Sem.runT]; exact ih _ _ _ (sys_le w c h)
  | program k ih => intro w es h; simp only [Sem.runT]; exact ih _ _ _ h
  | mark m k ih => intro w es h; simp only [Sem.runT]; exact ih _ _ h
  | halt x => intro w es h; exact h
theorem runT_ok {α : Type} {d : Nat} {P : Program} {s : Sem α} {w w' : World} {es es' : Array Event} {v : α} (e : s.runT P w es = (.ok v w', es')) (h : d ≤ w.drawn) : d ≤ w'.drawn := by
  have := runT_le P s w es h; rw [e] at this; exact this
theorem runT_halt {α : Type} {d : Nat} {P : Program} {s : Sem α} {w w' : World} {es es' : Array Event} {v : Halt} (e : s.runT P w es = (.halt v w', es')) (h : d ≤ w.drawn) : d ≤ w'.drawn := by
  have := runT_le P s w es h; rw [e] at this; exact this
theorem fst_ok {α : Type} {d : Nat} {P : Program} {s : Sem α} {w w' : World} {es : Array Event} {v : α} (e : (s.runT P w es).1 = .ok v w') (h : d ≤ w.drawn) : d ≤ w'.drawn := by
  have := runT_le P s w es h; rw [e] at this; exact this
theorem fst_halt {α : Type} {d : Nat} {P : Program} {s : Sem α} {w w' : World} {es : Array Event} {v : Halt} (e : (s.runT P w es).1 = .halt v w') (h : d ≤ w.drawn) : d ≤ w'.drawn := by
  have := runT_le P s w es h; rw [e] at this; exact this
/-! ### Steps of a goroutine -/
def stepW : GStep → World
  | .go _ w _ => w
  | .comm _ _ _ _ w _ => w
  | .spawn _ _ w _ => w
  | .count _ w _ => w
  | .timer _ _ w _ => w
  | .alone _ _ w _ => w
  | .newcoro _ _ _ w _ => w
  | .coroswitch _ _ _ w _ => w
  | .collect _ w _ => w
  | .watch _ w _ => w
  | .ended _ w _ => w
theorem stepW_after (es : Array Event) (s : GStep) : stepW (s.after es) = stepW s := by cases s <;> rfl
variable {d : Nat} {P : Program}
theorem ite_le {c : Prop} [Decidable c] {x y : GStep} (h1 : d ≤ (stepW x).drawn) (h2 : d ≤ (stepW y).drawn) : d ≤ (stepW (if c then x else y)).drawn := by
  split
  · exact h1
  · exact h2
theorem endWith_le (w : World) (fd : Nat) (t : ByteArray) (o : Outcome) (h : d ≤ w.drawn) : d ≤ (stepW (endWith w fd t o)).drawn := by
  have h1 := sys_le w (.write fd t) h
  unfold endWith
  dsimp only
  split
  · rename_i e
    rw [e] at h1
    split <;> exact h1
  · rename_i e; rw [e] at h1; exact h1
  · rename_i e; rw [e] at h1; exact h1
theorem endThrow_le (fr : Frame) (m : String) (w : World) (h : d ≤ w.drawn) : d ≤ (stepW (endThrow fr m w)).drawn := h
theorem throw_go {fr : Frame} {m : String} {w w2 : World} {g2 : Goroutine} {es : Array Event} (e : endThrow fr m w = .go g2 w2 es) (h : d ≤ w.drawn) : d ≤ w2.drawn := by
  have h2 := endThrow_le fr m w h
  rw [e] at h2
  exact h2
theorem endPrinting_le (fr : Frame) (v : Value) (w : World) (h : d ≤ w.drawn) : d ≤ (stepW (endPrinting P fr v w)).drawn := by
  unfold endPrinting
  dsimp only
  repeat' split
  all_goals exact h
theorem endFatal_le (fr : Frame) (cs : List Frame) (dy : Option Dying) (m : String) (w : World) (h : d ≤ w.drawn) : d ≤ (stepW (endFatal P fr cs dy m w)).drawn := by
  unfold endFatal
  dsimp only
  split
  · rename_i e; exact run_ok e h
  · rename_i e; exact run_halt e h
  · rename_i e; exact run_halt e h
theorem writeOn_le (fr : Frame) (dy : Dying) (f : Fatal) (w : World) (h : d ≤ w.drawn) : d ≤ (stepW (writeOn P fr dy f w)).drawn := by
  unfold writeOn
  dsimp only
  split
  · exact h
  · split
    · rename_i e; exact runT_ok e h
    · rename_i e; exact runT_halt e h
    · rename_i e; exact runT_halt e h
    · rename_i e; exact runT_halt e h
theorem die_le (fr : Frame) (dy : Dying) (w : World) (h : d ≤ w.drawn) : d ≤ (stepW (die P fr dy w)).drawn := by
  unfold die
  split
  · exact writeOn_le _ _ _ _ h
  · split
    · split
      · exact h
      · exact endWith_le _ _ _ _ h
    · dsimp only
      split
      · exact h
      · split
        · rename_i e; exact run_ok e h
        · rename_i e; exact run_halt e h
      · rw [stepW_after]
        split
        · exact fst_ok (by assumption) h
        · exact fst_ok (by assumption) h
        · exact fst_halt (by assumption) h
        · exact endPrinting_le _ _ _ (fst_halt (by assumption) h)
        · exact h
      · exact h
theorem doReturn_le (main : Bool) (fr : Frame) (cs : List Frame) (dy : Option Dying) (v : Value) (w : World) (h : d ≤ w.drawn) : d ≤ (stepW (doReturn P main fr cs dy v w)).drawn := by
  unfold doReturn
  dsimp only
  repeat' split
  all_goals exact h
theorem callDeferred_le (fr : Frame) (cs : List Frame) (dy : Option Dying) (c : Deferred) (w : World) (h : d ≤ w.drawn) : d ≤ (stepW (callDeferred P fr cs dy c w)).drawn := by
  have h1 := runT_le P (invoke c.target c.args) w #[] h
  unfold callDeferred
  refine ite_le h ?_
  · generalize (invoke c.target c.args).runT P w #[] = r at h1 ⊢
    obtain ⟨r, es⟩ := r
    dsimp only
    rw [stepW_after]
    dsimp only at h1
    repeat' split
    all_goals first
      | exact h1
      | exact endFatal_le _ _ _ _ _ h1
      | exact endThrow_le _ _ _ h1
theorem unwind_le (main : Bool) (fr : Frame) (cs : List Frame) (dy : Option Dying) (w : World) (h : d ≤ w.drawn) : d ≤ (stepW (unwind P main fr cs dy w)).drawn := by
  unfold unwind
  split
  · rename_i block _ ds _
    have h1 := runT_le P (Instr.takeDeferred block) w #[] h
    generalize (Instr.takeDeferred block).runT P w #[] = r at h1 ⊢
    obtain ⟨r, es⟩ := r
    dsimp only
    rw [stepW_after]
    dsimp only at h1
    split
    · exact h1
    · exact h1
  · exact callDeferred_le _ _ _ _ _ h
  · split
    · exact h
    · split
      · exact h
      · split
        · exact h
        · split
          · split
            · exact h
            · split
              · rename_i e; exact run_ok e h
              · rename_i e; exact run_halt e h
              · rename_i e; exact run_halt e h
          · split
            · exact endPrinting_le _ _ _ h
            · exact h
    · split
      · exact doReturn_le _ _ _ _ _ _ h
      · rename_i fn _
        have h1 := runT_le P (results fn fr.tmps) w #[] h
        generalize (results fn fr.tmps).runT P w #[] = r at h1 ⊢
        obtain ⟨r, es⟩ := r
        dsimp only
        rw [stepW_after]
        dsimp only at h1
        split
        · exact doReturn_le _ _ _ _ _ _ h1
        · exact h1
        · exact h1
theorem early_le (fr : Frame) (cs : List Frame) (dy : Option Dying) (g : Nat) (w : World) (h : d ≤ w.drawn) : d ≤ (stepW (early P fr cs dy g w)).drawn := by
  unfold early
  dsimp only
  repeat' split
  all_goals try dsimp only [stepW]
  all_goals first
    | exact h
    | exact run_ok (by assumption) h
    | exact run_halt (by assumption) h
theorem apply_le (fr : Frame) (cs : List Frame) (dy : Option Dying) (s : Sem Next) (w : World) (listen : Bool) (h : d ≤ w.drawn) : d ≤ (stepW (stepG.apply P listen fr cs dy s w)).drawn := by
  have h1 : d ≤ (resW (if listen then s.runT P w #[] else (s.run P w, #[])).1).drawn := by
    split
    · exact runT_le P s w _ h
    · exact run_le P s w h
  unfold stepG.apply
  generalize (if listen then s.runT P w #[] else (s.run P w, #[])) = r at h1 ⊢
  obtain ⟨r, es⟩ := r
  dsimp only at h1 ⊢
  rw [stepW_after]
  split
  all_goals (repeat' split)
  all_goals try dsimp only [resW] at h1
  all_goals first
    | exact h1
    | exact endThrow_le _ _ _ h1
    | exact endFatal_le _ _ _ _ _ h1
    | exact early_le _ _ _ _ _ h1
theorem oper_le (fr : Frame) (cs : List Frame) (dy : Option Dying) (w : World) (listen : Bool) (h : d ≤ w.drawn) : d ≤ (stepW (stepG.oper P listen fr cs dy w)).drawn := by
  unfold stepG.oper
  repeat' split
  all_goals first
    | exact h
    | exact apply_le _ _ _ _ _ _ h
theorem elim_le {α : Type} {o : Option α} {x : GStep} {f : α → GStep} (h1 : d ≤ (stepW x).drawn) (h2 : ∀ a, d ≤ (stepW (f a)).drawn) : d ≤ (stepW (o.elim x f)).drawn := by
  cases o
  · exact h1
  · exact h2 _
theorem exec_le (main : Bool) (fr : Frame) (cs : List Frame) (dy : Option Dying) (w : World) (listen : Bool) (h : d ≤ w.drawn) : d ≤ (stepW (stepG.exec P main listen fr cs dy w)).drawn := by
  unfold stepG.exec
  dsimp only
  repeat' split
  all_goals try refine elim_le ?_ (fun _ => ?_)
  all_goals try rw [stepW_after]
  all_goals first
    | exact h
    | exact apply_le _ _ _ _ _ _ h
    | exact oper_le _ _ _ _ _ h
    | exact fst_ok (by assumption) h
    | exact fst_halt (by assumption) h
    | exact doReturn_le _ _ _ _ _ _ (fst_ok (by assumption) h)
    | exact apply_le _ _ _ _ _ _ (fst_ok (by assumption) h)
    | exact run_ok (by assumption) h
    | exact run_halt (by assumption) h
theorem stepG_le (main : Bool) (g : Goroutine) (w : World) (listen : Bool) (h : d ≤ w.drawn) : d ≤ (stepW (stepG P main g w listen)).drawn := by
  unfold stepG
  dsimp only
  repeat' split
  all_goals first
    | exact die_le _ _ _ h
    | exact exec_le _ _ _ _ _ _ h
    | exact unwind_le _ _ _ _ _ h
/-! ### Steps of a machine -/
def machW : Stepped → World
  | .next m => m.world
  | .ended _ w => w
theorem waitingAt_le {rest : Rest} {cs : Array CommCase} {w w' : World} (e : waitingAt rest cs w = some w') (h : d ≤ w.drawn) : d ≤ w'.drawn := by
  unfold waitingAt at e
  split at e
  · split at e
    · cases e; exact h
    · cases e
  · cases e; exact h
theorem communicate_le (rest : Rest) (gs : Array Goroutine) (i : Nat) (g : Goroutine) (cases_ : Array CommCase) (bl : Bool) (sh : CommShape) (w : World) (h : d ≤ w.drawn) : d ≤ (machW (communicate P rest gs i g cases_ bl sh w).1).drawn := by
  unfold communicate
  dsimp only
  repeat' split
  all_goals try dsimp only [machW]
  all_goals first
    | exact h
    | exact waitingAt_le (by assumption) h
    | exact run_ok (by assumption) h
    | exact run_halt (by assumption) h
    | exact run_ok (by assumption) (run_ok (by assumption) h)
    | exact run_halt (by assumption) (run_ok (by assumption) h)
theorem look_le (gs : Array Goroutine) (rest : Rest) (w : World) (h : d ≤ w.drawn) : d ≤ (machW (look P gs rest w)).drawn := by
  unfold look
  dsimp only
  repeat' split
  all_goals try dsimp only [machW]
  all_goals first
    | exact h
    | exact run_ok (by assumption) h
    | exact run_halt (by assumption) h
theorem drain_le (w : World) (c : Nat) (h : d ≤ w.drawn) : d ≤ (drain w c).2.drawn := by
  unfold drain
  split
  · exact h
  · exact h
theorem retime_le (m : Machine) (k : Nat) (t : Timer) (a b : Nat) (h : d ≤ m.world.drawn) : d ≤ (retime m k t a b).2.world.drawn := by
  unfold retime
  dsimp only
  split
  · exact drain_le _ _ h
  · exact h
theorem named_le {m m' : Machine} {var : Addr} {f : Nat → Timer → Value × Machine} {v : Value} (hf : ∀ k t, d ≤ (f k t).2.world.drawn) (e : timerOp.named m var f = .ok (v, m')) : d ≤ m'.world.drawn := by
  unfold timerOp.named at e
  split at e
  · rename_i k _
    have := hf k (m.rest.timers.getD k default)
    simp only [Except.ok.injEq] at e
    rw [e] at this
    exact this
  · cases e
theorem opened_le {m m' : Machine} {var : Addr} (e : timerOp.opened m var = some m') (h : d ≤ m.world.drawn) : d ≤ m'.world.drawn := by
  unfold timerOp.opened at e
  split at e
  · split at e
    · cases e; exact h
    · cases e
  · cases e; exact h
theorem timerOp_le {m m' : Machine} {op : TimerOp} {v : Value} (e : timerOp m op = .ok (v, m')) (h : d ≤ m.world.drawn) : d ≤ m'.world.drawn := by
  cases op with
  | new t =>
    simp only [timerOp] at e
    split at e
    · cases e; exact h
    · split at e
      · split at e
        · cases e
        · cases e; exact h
      · cases e
  | stop var =>
    simp only [timerOp] at e
    exact named_le (fun k t => retime_le _ _ _ _ _ h) e
  | reset var a b =>
    simp only [timerOp] at e
    split at e
    · rename_i m1 e1
      exact named_le (fun k t => retime_le _ _ _ _ _ (opened_le e1 h)) e
    · cases e
  | deadline ctx a b c =>
    simp only [timerOp] at e
    cases e
    exact h
theorem runT_mle (m : Machine) (i : Nat) (listen : Bool) (h : d ≤ m.world.drawn) : d ≤ (machW (Go.runT P m i listen).1).drawn := by
  unfold Go.runT
  dsimp only
  have h1 := stepG_le (P := P) (i == 0) (m.gs.swapAt! i { (default : Goroutine) with status := .finished }).1 m.world listen h
  generalize stepG P (i == 0) (m.gs.swapAt! i { (default : Goroutine) with status := .finished }).1 m.world listen = r at h1 ⊢
  cases r with
  | ended o w es => exact h1
  | comm g c b sh w es => exact communicate_le _ _ _ _ _ _ _ _ h1
  | go g w es => exact h1
  | spawn g ch w es => exact h1
  | count g w es =>
    dsimp only [stepW] at h1 ⊢
    split
    · exact h1
    · exact h1
  | alone g on w es => exact h1
  | collect g w es => exact look_le _ _ _ h1
  | watch g w es => exact h1
  | newcoro g c dd w es => exact h1
  | coroswitch g c ex w es =>
    dsimp only [stepW] at h1 ⊢
    split
    · exact h1
    · split
      · exact throw_go (by assumption) h1
      · exact h1
    · exact h1
  | timer g op w es =>
    dsimp only [stepW] at h1 ⊢
    split
    · rename_i v m2 e
      show d ≤ m2.world.drawn
      refine timerOp_le e ?_
      exact h1
    · split
      · exact throw_go (by assumption) h1
      · exact h1
    · exact h1
    · exact h1
theorem serve_le (m : Machine) (k : Nat) (h : d ≤ m.world.drawn) : d ≤ (machW (serve P m k)).drawn := by
  unfold serve
  dsimp only
  repeat' split
  all_goals exact h
theorem advanceTo_le (m : Machine) (t : Nat) (h : d ≤ m.world.drawn) : d ≤ (m.advanceTo t).world.drawn := h
def stepOk (d : Nat) : Stepped → Prop
  | .next m => d ≤ m.world.drawn
  | .ended _ _ => True
def moveOk (d : Nat) : Move → Prop
  | .goroutine m _ => d ≤ m.world.drawn
  | .machine s _ => stepOk d s
theorem stepOk_of {s : Stepped} (h : d ≤ (machW s).drawn) : stepOk d s := by
  cases s
  · exact h
  · trivial
theorem askOn_le (m : Machine) (h : d ≤ m.world.drawn) : moveOk d (askOn P m) := by
  unfold askOn
  dsimp only
  repeat' split
  all_goals try dsimp only [moveOk, stepOk]
  all_goals first
    | exact h
    | exact trivial
    | exact run_ok (by assumption) h
    | exact stepOk_of (serve_le _ _ (run_ok (by assumption) h))
    | exact advanceTo_le _ _ (run_ok (by assumption) h)
    | exact run_ok (by assumption) (run_ok (by assumption) h)
    | exact advanceTo_le _ _ (run_ok (by assumption) (run_ok (by assumption) h))
    | exact run_ok (by assumption) (run_ok (by assumption) (run_ok (by assumption) h))
    | exact run_ok (by assumption) (run_ok (by assumption) (run_ok (by assumption) (run_ok (by assumption) h)))
    | exact run_ok (by assumption) (advanceTo_le _ _ (run_ok (by assumption) (run_ok (by assumption) h)))
    | exact run_ok (by assumption) (run_ok (by assumption) (advanceTo_le _ _ (run_ok (by assumption) (run_ok (by assumption) h))))
theorem ask_mle (m : Machine) (h : d ≤ m.world.drawn) : moveOk d (ask P m) := by
  unfold ask
  split
  · split
    · trivial
    · rename_i w1 e1
      have h2 := look_le (P := P) m.gs m.rest w1 (run_ok e1 h)
      split
      · rename_i m2 e2
        rw [e2] at h2
        exact askOn_le _ h2
      · exact stepOk_of h2
    · exact askOn_le _ (run_ok (by assumption) h)
  · exact askOn_le _ h
theorem move_le (m : Machine) (h : d ≤ m.world.drawn) : moveOk d (move P m) := by
  unfold move
  repeat' split
  all_goals first
    | exact h
    | exact trivial
    | exact ask_mle _ h
theorem step_le (m : Machine) (h : d ≤ m.world.drawn) : stepOk d (step P m) := by
  have h1 := move_le (P := P) m h
  unfold step stepT
  split
  · rename_i e; rw [e] at h1; exact stepOk_of (runT_mle _ _ _ h1)
  · rename_i e; rw [e] at h1; exact h1
theorem steps_le {m m' : Machine} (hs : Steps P m m') (h : d ≤ m.world.drawn) : d ≤ m'.world.drawn := by
  obtain ⟨n, hn⟩ := hs
  induction n generalizing m with
  | zero => simp only [runN] at hn; cases hn; exact h
  | succ n ih =>
    have h1 := step_le (P := P) m h
    simp only [runN] at hn
    cases e : step P m with
    | next m1 => rw [e] at hn h1; exact ih h1 hn
    | ended o w => rw [e] at hn; cases hn
end Drw
/-- What a call that returns has drawn is at least what was drawn before. -/
theorem Calls.drawn {P : Program} {f : FuncId} {args : Array Value} {w : World} {R : Ending → World → Prop} (h : Calls P f args w R) :
    Calls P f args w fun e w' => R e w' ∧ (e = .outgrown ∨ w.drawn ≤ w'.drawn) := by
  intro cs
  obtain ⟨e, w', fr, hR, hc, hf⟩ := h cs
  refine ⟨e, w', fr, ⟨hR, ?_⟩, hc, hf⟩
  cases e with
  | returned v => exact .inr (Drw.steps_le (d := w.drawn) hc (Nat.le_refl _))
  | panicked c => exact .inr (Drw.steps_le (d := w.drawn) hc (Nat.le_refl _))
  | outgrown => exact .inl rfl
end Go.Proofs.YtpncmdlbmnmahaaGreat

/- The document's answers: Size, order, Compare, Same of the reference package. -/
namespace Go.Proofs.YtpncmdlbmnmahaaGreat
set_option linter.unusedVariables false
set_option linter.unusedSimpArgs false
open Go.RowKit Go.Sort
theorem refSize_any : ∀ (N : Nat) (t : T), t.size ≤ N → t.size ≤ 1000000000000 → ∀ (n₀ : Nat) (a : Option Addr) (c : Nat) (w : World), n₀ ≤ w.heap.size → IsArgs n₀ w t.args a c →
    Calls Tryz.prog 115 #[tm t.head a t.args.length c] w fun e w' => e = .returned (.int .i64 (t.size : Nat)) ∧ Below w.heap.size w w' := by
  intro N
  induction N with
  | zero => intro t ht; have := T.size_pos t; omega
  | succ N ih =>
    intro t ht hbig n₀ a c w hn hA
    have IH := Lib.hid ih
    clear ih
    have hsz := T.size_eq t
    have HS := Lib.hid hsz
    clear hsz
    have hlc : t.args.length ≤ c ∧ c ≤ maxLen := ⟨hA.1, hA.2.1⟩
    unfold maxLen at hlc
    obtain ⟨hl1, hl2⟩ := hlc
    generalize hL : t.args.length = len at *
    have HL := Lib.hid hL
    clear hL
    have HA := Lib.hid hA
    clear hA
    go_enter Tryz.func115, Tryz.ntmps115
    go_wp2
    go_loopw [3, 4] (fun n i wr => ∃ k : Nat, k ≤ len ∧ i = .int .i64 k ∧ n = .int .i64 (1 + T.sizes (t.args.take k) : Nat) ∧ Below (w.heap.size + 1) (w.alloc (tmCells t.head a len c)) wr)
      (fun _ i _ => len - (intOf i).toNat)
    case atStart => exact ⟨0, Nat.zero_le _, rfl, by simp [T.sizes], Below.refl _ _⟩
    case round =>
      obtain ⟨k, hk, rfl, rfl, hB⟩ := hrel
      generalize hm' : 1 + T.sizes (t.args.take k) = m at *
      have hmb : m ≤ 1000000000000 := by
        have h3 := T.sizes_append (t.args.take k) (t.args.drop k)
        rw [List.take_append_drop] at h3
        have := HS.out
        omega
      have HM := Lib.hid hm'
      clear hm'
      have hbox : wr.cell? ⟨w.heap.size, 1, none⟩ = some (.slice a len c) := (hB.cell (p := ⟨w.heap.size, 1, none⟩) (by simp)).trans (by simp [go_sem])
      have HB := Lib.hid hB
      clear hB
      by_cases hlt : k < len
      · have hw : Below n₀ w wr := ((Below.refl n₀ w).alloc hn _).trans (HB.out.mono (by omega))
        obtain ⟨b, o, s, a', c', rfl, hbn, hs, hwf, hc1, hc2, hA'⟩ := (HA.out.below hw).elem (i := k) (by rw [HL.out]; exact hlt)
        have hs1 : wr.heap.size ≥ w.heap.size + 1 := by have := HB.out.size; simpa using this
        have hsN : s.size ≤ N := by have := T.size_lt_of_mem hs; have := HS.out; omega
        have hsb : s.size ≤ 1000000000000 := by have := T.size_lt_of_mem hs; have := HS.out; omega
        have HSS := Lib.hid hs
        have HA' := Lib.hid hA'
        clear hs hA' hw hwf
        go_wp2_with fail
        refine (IH.out s hsN hsb n₀ a' c' wr (by omega) HA'.out).mono ?_
        rintro e w2 ⟨rfl, hB2⟩
        generalize hr : s.size = r at *
        have HR := Lib.hid hr
        have HB2 := Lib.hid hB2
        clear hr hB2
        go_wp2
        go_roundw
        case rel =>
          refine ⟨k + 1, by omega, by go_num, ?_, HB.out.trans (HB2.out.mono (by omega))⟩
          have h1 := HM.out
          have h2 := HR.out
          have h3 := T.sizes_take HSS.out
          rw [show ((m : Int) + (r : Int)) = ((m + r : Nat) : Int) from by omega]
          exact congrArg (fun x : Nat => Value.int .i64 (x : Int)) (by omega)
        case measure => simp [intOf]; omega
      · go_wp2
        go_ret
        refine ⟨?_, (((Below.refl w.heap.size w).alloc (Nat.le_refl _) _).trans (HB.out.mono (by omega)))⟩
        have h1 := HM.out
        have h2 := HS.out
        rw [List.take_of_length_le (by have := HL.out; omega)] at h1
        exact congrArg (fun x : Nat => Ending.returned (.int .i64 (x : Int))) (by omega)
def ord (a b : Int) : Int := if a < b then -1 else if b < a then 1 else 0
theorem ord_zero {a b : Int} : ord a b = 0 ↔ a = b := by unfold ord; split <;> (try split) <;> omega
theorem order_any (a b : Int) (w : World) : Calls Tryz.prog 149 #[.int .i64 a, .int .i64 b] w fun e w' => e = .returned (.int .i64 (ord a b)) ∧ w' = w := by
  by_cases h1 : a < b
  · go_enter Tryz.func149, Tryz.ntmps149
    go_wp2
    go_ret
    exact ⟨by rw [ord, if_pos h1]; rfl, rfl⟩
  · by_cases h2 : b < a
    · go_enter Tryz.func149, Tryz.ntmps149
      go_wp2
      go_ret
      exact ⟨by rw [ord, if_neg (by omega), if_pos h2]; rfl, rfl⟩
    · go_enter Tryz.func149, Tryz.ntmps149
      go_wp2
      go_ret
      exact ⟨by rw [ord, if_neg (by omega), if_neg (by omega)]; rfl, rfl⟩
/-! ### Compare -/
mutual
def T.cmp : T → T → Int
  | .node h ts, t => if (T.node h ts).size ≠ t.size then ord (T.node h ts).size t.size else if h ≠ t.head then ord h t.head else if ts.length ≠ t.args.length then ord ts.length t.args.length else T.cmps ts t.args
def T.cmps : List T → List T → Int
  | [], _ => 0
  | _ :: _, [] => 0
  | x :: xs, y :: ys => if T.cmp x y ≠ 0 then T.cmp x y else T.cmps xs ys
end
theorem T.cmp_eq (x y : T) : T.cmp x y = if x.size ≠ y.size then ord x.size y.size else if x.head ≠ y.head then ord x.head y.head else if x.args.length ≠ y.args.length then ord x.args.length y.args.length else T.cmps x.args y.args := by
  cases x; cases y; rw [T.cmp]; rfl
theorem drop_at' {xs : List T} {j : Nat} {s : T} (h : xs[j]? = some s) : xs.drop j = s :: xs.drop (j + 1) := by
  obtain ⟨hi, e⟩ := List.getElem?_eq_some_iff.1 h
  rw [List.drop_eq_getElem_cons hi, e]
def RefCmpI (x y : T) (w2 : World) (i : Value) (wr : World) : Prop := ∃ k : Nat, k ≤ x.args.length ∧ i = .int .i64 k ∧ Below w2.heap.size w2 wr ∧ T.cmps (x.args.drop k) (y.args.drop k) = T.cmp x y
set_option maxRecDepth 100000 in
set_option maxHeartbeats 2000000 in
theorem refCompare_any : ∀ (N : Nat) (x y : T), x.size ≤ N → x.size ≤ 1000000000000 → y.size ≤ 1000000000000 → ∀ (n₀ : Nat) (a : Option Addr) (c : Nat) (a' : Option Addr) (c' : Nat) (w : World), n₀ ≤ w.heap.size → IsArgs n₀ w x.args a c → IsArgs n₀ w y.args a' c' →
    Calls Tryz.prog 135 #[tm x.head a x.args.length c, tm y.head a' y.args.length c'] w fun e w' => e = .returned (.int .i64 (T.cmp x y)) ∧ Below w.heap.size w w' := by
  intro N
  induction N with
  | zero => intro t _ ht; have := T.size_pos t; omega
  | succ N ih =>
    intro x y hx hxb hyb n₀ a c a' c' w hn hA hB
    have IH := Lib.hid ih
    clear ih
    have HA := Lib.hid (hA.mono hn)
    have HB := Lib.hid (hB.mono hn)
    clear hA hB hn n₀
    have hb2 : Below w.heap.size w ((w.alloc (tmCells x.head a x.args.length c)).alloc (tmCells y.head a' y.args.length c')) := ((Below.refl _ w).alloc (Nat.le_refl _) _).alloc (by simp) _
    have e1 : ((w.alloc (tmCells x.head a x.args.length c)).alloc (tmCells y.head a' y.args.length c')).cell? ⟨w.heap.size, 0, none⟩ = some (.int .i64 x.head) := by simp [go_sem]
    have e2 : ((w.alloc (tmCells x.head a x.args.length c)).alloc (tmCells y.head a' y.args.length c')).cell? ⟨w.heap.size, 1, none⟩ = some (.slice a x.args.length c) := by simp [go_sem]
    have e3 : ((w.alloc (tmCells x.head a x.args.length c)).alloc (tmCells y.head a' y.args.length c')).cell? ⟨w.heap.size + 1, 0, none⟩ = some (.int .i64 y.head) := by simp [go_sem]
    have e4 : ((w.alloc (tmCells x.head a x.args.length c)).alloc (tmCells y.head a' y.args.length c')).cell? ⟨w.heap.size + 1, 1, none⟩ = some (.slice a' y.args.length c') := by simp [go_sem]
    have hsz : ((w.alloc (tmCells x.head a x.args.length c)).alloc (tmCells y.head a' y.args.length c')).heap.size = w.heap.size + 2 := by simp
    have E := Lib.hid (And.intro hb2 (And.intro e1 (And.intro e2 (And.intro e3 (And.intro e4 hsz)))))
    clear hb2 e1 e2 e3 e4 hsz
    go_enter Tryz.func135, Tryz.ntmps135
    go_wp2
    generalize (w.alloc (tmCells x.head a x.args.length c)).alloc (tmCells y.head a' y.args.length c') = wB at E ⊢
    obtain ⟨hb2, e1, e2, e3, e4, hsz⟩ := E.out
    have HBB := Lib.hid hb2
    have HSZ := Lib.hid hsz
    have cX : ∀ W, Below wB.heap.size wB W → Calls Tryz.prog 115 #[tm x.head a x.args.length c] W fun e w' => e = .returned (.int .i64 (x.size : Nat)) ∧ Below W.heap.size W w' := fun W hW =>
      refSize_any x.size x (Nat.le_refl _) hxb w.heap.size a c W (Nat.le_trans HBB.out.size hW.size) (HA.out.below (HBB.out.trans (hW.mono HBB.out.size)))
    have cY : ∀ W, Below wB.heap.size wB W → Calls Tryz.prog 115 #[tm y.head a' y.args.length c'] W fun e w' => e = .returned (.int .i64 (y.size : Nat)) ∧ Below W.heap.size W w' := fun W hW =>
      refSize_any y.size y (Nat.le_refl _) hyb w.heap.size a' c' W (Nat.le_trans HBB.out.size hW.size) (HB.out.below (HBB.out.trans (hW.mono HBB.out.size)))
    have CX := Lib.hid cX
    have CY := Lib.hid cY
    clear cX cY hb2 hsz E
    have E1 := Lib.hid e1
    have E2 := Lib.hid e2
    have E3 := Lib.hid e3
    have E4 := Lib.hid e4
    have f1 := fun d os => cell_regrown e1 d os
    have f2 := fun d os => cell_regrown e2 d os
    have f3 := fun d os => cell_regrown e3 d os
    have f4 := fun d os => cell_regrown e4 d os
    refine wp_region_quiet_below (by kernel_rfl) (by kernel_rfl) ?_
    repeat (quiet_step (first | with_reducible exact Calls.regrown_of (CX.out _ (below_regrown _ _ _)) | with_reducible exact Calls.regrown_of (CY.out _ (below_regrown _ _ _))))
    refine wpQuiet_nil ?_
    intro _ hw'
    obtain ⟨⟨dq, osq⟩, hw''⟩ := hw'
    subst hw''
    have hq := below_regrown wB dq osq
    generalize grow (redrawn wB dq) osq = w2 at hq ⊢
    clear f1 f2 f3 f4 e1 e2 e3 e4
    have hq1 : w.heap.size + 2 ≤ w2.heap.size := by have := hq.size; have := HSZ.out; omega
    have e1 := (hq.cell (p := ⟨w.heap.size, 0, none⟩) (by have := HSZ.out; simp; omega)).trans E1.out
    have e2 := (hq.cell (p := ⟨w.heap.size, 1, none⟩) (by have := HSZ.out; simp; omega)).trans E2.out
    have e3 := (hq.cell (p := ⟨w.heap.size + 1, 0, none⟩) (by have := HSZ.out; simp; omega)).trans E3.out
    have e4 := (hq.cell (p := ⟨w.heap.size + 1, 1, none⟩) (by have := HSZ.out; simp; omega)).trans E4.out
    have HQ := Lib.hid hq
    have HW2 := Lib.hid (HBB.out.trans (hq.mono HBB.out.size))
    clear hq
    have hcmp := T.cmp_eq x y
    by_cases hs : x.size = y.size
    · rw [if_neg (by omega)] at hcmp
      have hs1 : ((x.size : Int) == (y.size : Int)) = true := by simp; omega
      have hs2 : ((x.size : Int) != (y.size : Int)) = false := by simp; omega
      have hs3 : (x.size == y.size) = true := by simp; omega
      have hs4 : (x.size != y.size) = false := by simp; omega
      clear hs
      simp only [hs1, hs2, hs3, hs4, Bool.not_true]
      by_cases hh : x.head = y.head
      · rw [if_neg (by simpa using hh)] at hcmp
        have hh1 : (x.head == y.head) = true := by simp; omega
        have hh2 : (x.head != y.head) = false := by simp; omega
        clear hh
        by_cases hl : x.args.length = y.args.length
        · rw [if_neg (by omega)] at hcmp
          have hl1 : ((x.args.length : Int) == (y.args.length : Int)) = true := by simp; omega
          have hl2 : ((x.args.length : Int) != (y.args.length : Int)) = false := by simp; omega
          have hl3 : (x.args.length == y.args.length) = true := by simp; omega
          have hl4 : (x.args.length != y.args.length) = false := by simp; omega
          have HL := Lib.hid hl
          have HC := Lib.hid hcmp
          clear hl hcmp
          have hlc : x.args.length ≤ c ∧ c ≤ maxLen := ⟨HA.out.1, HA.out.2.1⟩
          unfold maxLen at hlc
          obtain ⟨hlc1, hlc2⟩ := hlc
          go_wp2
          go_loopw [5] (fun i wr => RefCmpI x y w2 i wr) (fun i _ => x.args.length - (intOf i).toNat)
          case atStart => exact ⟨0, Nat.zero_le _, rfl, Below.refl _ _, by simpa using HC.out.symm⟩
          case round =>
            obtain ⟨k, hk, rfl, hbr, hcr⟩ := hrel
            clear e1 e2 e3 e4
            have e2 := (HQ.out.trans (hbr.mono HQ.out.size)).cell (p := ⟨w.heap.size, 1, none⟩) (by have := HSZ.out; simp; omega) |>.trans E2.out
            have e4 := (HQ.out.trans (hbr.mono HQ.out.size)).cell (p := ⟨w.heap.size + 1, 1, none⟩) (by have := HSZ.out; simp; omega) |>.trans E4.out
            have hsr : w2.heap.size ≤ wr.heap.size := hbr.size
            have HBR := Lib.hid hbr
            have HCR := Lib.hid hcr
            clear hbr hcr
            have hw : Below w.heap.size w wr := HW2.out.trans (HBR.out.mono (by omega))
            by_cases hlt : k < x.args.length
            · obtain ⟨b1, o1, s1, p1, q1, rfl, hbn1, hs1', hw1, hd1, hd2, hsA1⟩ := (HA.out.below hw).elem hlt
              obtain ⟨b2, o2, s2, p2, q2, rfl, hbn2, hs2', hw2, hd3, hd4, hsA2⟩ := (HB.out.below hw).elem (i := k) (by have := HL.out; omega)
              have hlt2 : k < y.args.length := by have := HL.out; omega
              have hlc3 : y.args.length ≤ c' := HB.out.1
              have z1 : s1.size ≤ x.size - 1 := by have := T.size_lt_of_mem hs1'; have := T.size_eq x; omega
              have z2 : s2.size ≤ y.size - 1 := by have := T.size_lt_of_mem hs2'; have := T.size_eq y; omega
              have cI : ∀ W, Below wr.heap.size wr W → Calls Tryz.prog 135 #[tm s1.head p1 s1.args.length q1, tm s2.head p2 s2.args.length q2] W fun e w' => e = .returned (.int .i64 (T.cmp s1 s2)) ∧ Below W.heap.size W w' := fun W hW =>
                IH.out s1 s2 (by omega) (by omega) (by omega) w.heap.size p1 q1 p2 q2 W (Nat.le_trans hw.size hW.size) (hsA1.below (hW.mono hw.size)) (hsA2.below (hW.mono hw.size))
              have CI := Lib.hid cI
              have HW := Lib.hid hw
              have HS1' := Lib.hid hs1'
              have HS2' := Lib.hid hs2'
              clear cI hw hs1' hs2' hsA1 hsA2 hw1 hw2 hbn1 hbn2 z1 z2
              have hi1 : (0 : Int) ≤ (k : Int) := by omega
              have hi2 : (k : Int) < (x.args.length : Int) := by omega
              have hi3 : (k : Int) < (y.args.length : Int) := by omega
              go_wp2
              have g2 := fun d os => cell_regrown e2 d os
              have g4 := fun d os => cell_regrown e4 d os
              have g5 := fun d os => cell_regrown hd1 d os
              have g6 := fun d os => cell_regrown hd2 d os
              have g7 := fun d os => cell_regrown hd3 d os
              have g8 := fun d os => cell_regrown hd4 d os
              refine wp_region_quiet_below (by kernel_rfl) (by kernel_rfl) ?_
              repeat (quiet_step (first | with_reducible exact Calls.regrown_of (CI.out _ (below_regrown _ _ _))))
              refine wpQuiet_nil ?_
              intro _ hw'
              obtain ⟨⟨dq, osq⟩, hw''⟩ := hw'
              subst hw''
              have hq3 := below_regrown wr dq osq
              generalize grow (redrawn wr dq) osq = w3 at hq3 ⊢
              have HQ3 := Lib.hid hq3
              clear hq3 g2 g4 g5 g6 g7 g8
              have hstep : T.cmps (x.args.drop k) (y.args.drop k) = if T.cmp s1 s2 ≠ 0 then T.cmp s1 s2 else T.cmps (x.args.drop (k + 1)) (y.args.drop (k + 1)) := by
                rw [drop_at' HS1'.out, drop_at' HS2'.out, T.cmps]
              have HST := Lib.hid (HCR.out.symm.trans hstep)
              clear hstep
              by_cases hz : T.cmp s1 s2 = 0
              · have hz1 : (T.cmp s1 s2 == 0) = true := by simp [hz]
                have hz2 : (T.cmp s1 s2 != 0) = false := by simp [hz]
                have HZ := Lib.hid hz
                clear hz
                go_wp2
                refine ⟨?_, ?_⟩
                · exact ⟨k + 1, by omega, by go_num, HBR.out.trans (HQ3.out.mono HBR.out.size), by rw [HST.out, if_neg (by simpa using HZ.out)]⟩
                · simp [intOf]; omega
              · have hz1 : (T.cmp s1 s2 == 0) = false := by simpa using hz
                have hz2 : (T.cmp s1 s2 != 0) = true := by simpa using hz
                go_wp2
                go_ret
                exact ⟨by rw [HST.out, if_pos hz]; rfl, HW.out.trans (HQ3.out.mono HW.out.size)⟩
            · have hkl : k = x.args.length := by omega
              go_wp2
              go_ret
              refine ⟨?_, hw⟩
              rw [← HCR.out, hkl, List.drop_length, T.cmps]; rfl
        · rw [if_pos (by omega)] at hcmp
          have hl1 : ((x.args.length : Int) == (y.args.length : Int)) = false := by simp; omega
          have hl2 : ((x.args.length : Int) != (y.args.length : Int)) = true := by simp; omega
          have hl3 : (x.args.length == y.args.length) = false := by simp; omega
          have hl4 : (x.args.length != y.args.length) = true := by simp; omega
          have HC := Lib.hid hcmp
          clear hcmp
          go_wp2_with (go_at_call 149; refine (order_any _ _ _).mono ?_; rintro e w' ⟨rfl, rfl⟩)
          go_ret
          exact ⟨by rw [HC.out]; rfl, HW2.out⟩
      · rw [if_pos (by simpa using hh)] at hcmp
        have hh1 : (x.head == y.head) = false := by simpa using hh
        have hh2 : (x.head != y.head) = true := by simpa using hh
        have HC := Lib.hid hcmp
        clear hcmp
        go_wp2_with (go_at_call 149; refine (order_any _ _ _).mono ?_; rintro e w' ⟨rfl, rfl⟩)
        go_ret
        exact ⟨by rw [HC.out]; rfl, HW2.out⟩
    · rw [if_pos (by omega)] at hcmp
      have hs1 : ((x.size : Int) == (y.size : Int)) = false := by simp; omega
      have hs2 : ((x.size : Int) != (y.size : Int)) = true := by simp; omega
      have hs3 : (x.size == y.size) = false := by simp; omega
      have hs4 : (x.size != y.size) = true := by simp; omega
      have HC := Lib.hid hcmp
      clear hcmp
      go_wp2
      have f1 := fun d os => cell_regrown e1 d os
      have f2 := fun d os => cell_regrown e2 d os
      have f3 := fun d os => cell_regrown e3 d os
      have f4 := fun d os => cell_regrown e4 d os
      refine wp_region_quiet_below (by kernel_rfl) (by kernel_rfl) ?_
      repeat (quiet_step (first | with_reducible exact Calls.regrown_of (CX.out _ (HQ.out.trans ((below_regrown _ _ _).mono HQ.out.size))) | with_reducible exact Calls.regrown_of (CY.out _ (HQ.out.trans ((below_regrown _ _ _).mono HQ.out.size))) | with_reducible exact Calls.regrown_of ((order_any _ _ _).mono fun _ _ h => ⟨h.1, h.2 ▸ Below.refl _ _⟩)))
      refine wpQuiet_nil ?_
      intro _ hw'
      obtain ⟨⟨dq, osq⟩, hw''⟩ := hw'
      subst hw''
      go_wp2
      go_ret
      exact ⟨by rw [HC.out]; rfl, HW2.out.trans ((below_regrown w2 dq osq).mono (by omega))⟩
theorem refSame_any (x y : T) (hx : x.size ≤ 1000000000000) (hy : y.size ≤ 1000000000000) (n₀ : Nat) (a : Option Addr) (c : Nat) (a' : Option Addr) (c' : Nat) (w : World) (hn : n₀ ≤ w.heap.size) (hA : IsArgs n₀ w x.args a c) (hB : IsArgs n₀ w y.args a' c') :
    Calls Tryz.prog 118 #[tm x.head a x.args.length c, tm y.head a' y.args.length c'] w fun e w' => e = .returned (.bool (decide (T.cmp x y = 0))) ∧ Below w.heap.size w w' := by
  have hC : ∀ W, Below w.heap.size w W → Calls Tryz.prog 135 #[tm x.head a x.args.length c, tm y.head a' y.args.length c'] W fun e w' => e = .returned (.int .i64 (T.cmp x y)) ∧ Below W.heap.size W w' := fun W hW =>
    refCompare_any x.size x y (Nat.le_refl _) hx hy n₀ a c a' c' W (Nat.le_trans hn hW.size) (hA.below (hW.mono hn)) (hB.below (hW.mono hn))
  have HC := Lib.hid hC
  clear hC hA hB
  go_enter Tryz.func118, Tryz.ntmps118
  go_wp2_with fail
  have hb : Below w.heap.size w ((w.alloc (tmCells x.head a x.args.length c)).alloc (tmCells y.head a' y.args.length c')) := ((Below.refl _ w).alloc (Nat.le_refl _) _).alloc (by simp) _
  refine (HC.out _ hb).mono ?_
  rintro e w2 ⟨rfl, hb2⟩
  have HB2 := Lib.hid (hb.trans (hb2.mono (by simp; omega)))
  clear hb hb2
  go_wp2
  go_ret
  refine ⟨?_, HB2.out⟩
  exact congrArg (fun q : Bool => Ending.returned (.bool q)) (by rw [Bool.eq_iff_iff]; simp)
end Go.Proofs.YtpncmdlbmnmahaaGreat
