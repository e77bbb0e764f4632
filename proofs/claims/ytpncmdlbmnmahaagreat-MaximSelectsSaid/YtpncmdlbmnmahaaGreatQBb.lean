/- QBb: joined of Rf, Leaf. -/
import Derived.RangeFuncNested
import Derived.RangeFuncLeaves
import Derived.WalkKit
import Derived.Test.YtpncmdlbmnmahaaGreatQBa
import Derived.Test.YtpncmdlbmnmahaaGreatProg
import Derived.BigQuiet
import Derived.Deep.QuietTactic
/- A range over a function whose iterator keeps cells of its own: the iterator writes only blocks laid since its call began; a round writes only the caller's own boxes, and new blocks. Plain laws over the model; no program is named here. -/
namespace Go.Proofs.YtpncmdlbmnmahaaGreat
set_option linter.unusedVariables false
set_option linter.unusedSimpArgs false
open Go.RowKit
/-- What a round keeps: all blocks below n₀, and all blocks from B on. -/
def Kept (n₀ B : Nat) (W W' : World) : Prop := Below n₀ W W' ∧ ∀ b, B ≤ b → b < W.heap.size → W'.heap[b]? = W.heap[b]?
theorem Kept.refl (n₀ B : Nat) (W : World) : Kept n₀ B W W := ⟨Below.refl _ _, fun _ _ _ => rfl⟩
theorem Kept.trans {n₀ B : Nat} {X Y Z : World} (h : Kept n₀ B X Y) (k : Kept n₀ B Y Z) : Kept n₀ B X Z :=
  ⟨h.1.trans k.1, fun b hb hl => (k.2 b hb (Nat.lt_of_lt_of_le hl h.1.size)).trans (h.2 b hb hl)⟩
theorem Kept.mono {n₀ B B' : Nat} {X Y : World} (h : Kept n₀ B X Y) (hB : B ≤ B') : Kept n₀ B' X Y := ⟨h.1, fun b hb hl => h.2 b (by omega) hl⟩
theorem Kept.alloc {n₀ B : Nat} {X Y : World} (h : Kept n₀ B X Y) (hn : n₀ ≤ X.heap.size) (o : Obj) : Kept n₀ B X (Y.alloc o) :=
  ⟨h.1.alloc (Nat.le_trans hn h.1.size) o, fun b hb hl => (Below.heap_alloc _ _ _ (Nat.lt_of_lt_of_le hl h.1.size)).trans (h.2 b hb hl)⟩
theorem Kept.drew {n₀ B : Nat} {X Y : World} (h : Kept n₀ B X Y) : Kept n₀ B X Y.drew := ⟨h.1.drew, h.2⟩
/-- A store into one of the caller's boxes, or into a block laid since. -/
theorem Kept.setCell {n₀ B : Nat} {X Y : World} (h : Kept n₀ B X Y) {p : Addr} (hp : n₀ ≤ p.block) (hq : p.block < B ∨ X.heap.size ≤ p.block) (u : Value) : Kept n₀ B X (Y.setCell p u) :=
  ⟨h.1.setCell hp u, fun b hb hl => (Below.heap_setCell _ _ _ _ (by omega)).trans (h.2 b hb hl)⟩
/-- Behind a callee that makes memory of its own alone. -/
theorem Kept.below {n₀ B : Nat} {X Y Z : World} (h : Kept n₀ B X Y) (hn : n₀ ≤ Y.heap.size) (k : Below Y.heap.size Y Z) : Kept n₀ B X Z :=
  ⟨h.1.trans (k.mono hn), fun b hb hl => (k.block b (Nat.lt_of_lt_of_le hl h.1.size)).trans (h.2 b hb hl)⟩
theorem Kept.grown {n₀ B : Nat} {X Y Z : World} {row : Option Nat} (h : Kept n₀ B X Y) (hg : Y.grownBy Z row) (hn : n₀ ≤ Y.heap.size) (hr : ∀ k, row = some k → n₀ ≤ k ∧ (k < B ∨ X.heap.size ≤ k)) : Kept n₀ B X Z :=
  ⟨h.1.grown hg hn (fun k e => (hr k e).1), fun b hb hl => (hg.block b (Nat.lt_of_lt_of_le hl h.1.size) (fun e => by have := (hr b e.symm).2; omega)).trans (h.2 b hb hl)⟩
theorem Kept.cell {n₀ B : Nat} {X Y : World} (h : Kept n₀ B X Y) {p : Addr} {v : Value} (hB : B ≤ p.block) (hc : X.cell? p = some v) : Y.cell? p = some v :=
  (World.cell?_of_block (h.2 p.block hB (World.block_lt_of_cell? X p hc))).trans hc
def AbidesBelow {β : Type} (B : Nat) (J : β → World → Prop) : Prop := ∀ s W W', J s W → Below B W W' → J s W'
/-- The contract of an iterator value: 'may pre x vs W': pre having come, x may come next, handed over as vs. -/
def SeqB {α : Type} (F : Fence) (n : Nat) (P : Program) (g : Nat) (lb : Array Value) (n₀ : Nat) (may : List α → α → Array Value → World → Prop) (S Sp : List α → Prop) (w : World) : Prop :=
  ∀ (l : Nat) (J Jx : List α → World → Prop) (W : World), Below w.heap.size w W → AbidesBelow W.heap.size J → AbidesBelow W.heap.size Jx →
    (∀ pre x vs W1, J pre W1 → W.heap.size ≤ W1.heap.size → may pre x vs W1 → YieldAt F (n - 1) P l vs W1 fun e W' =>
      (e = .returned (.bool true) ∧ J (pre ++ [x]) W' ∧ Kept n₀ W.heap.size W1 W') ∨ (e = .returned (.bool false) ∧ Jx (pre ++ [x]) W')) →
    J [] W →
    CallsIn F n P g (#[.func (.yield l) #[] #[]] ++ lb) W fun e W' => (∃ v, e = .returned v) ∧ ((∃ xs, S xs ∧ J xs W') ∨ (∃ pre, Sp pre ∧ Jx pre W'))
/-- How a round's body may be left. -/
def postB {α : Type} (n₀ B : Nat) (I : List α → World → Prop) (Ix : Code → List α → World → Prop) (xs : List α) (W : World) : Exit → Act → World → Prop
  | .normal, _, W' => Kept n₀ B W W' ∧ I xs W'
  | .ret, _, W' => Kept n₀ B W W' ∧ Ix .ret xs W'
  | .exit id, _, W' => Kept n₀ B W W' ∧ Ix (.exit id) xs W'
  | .goto t, _, W' => Kept n₀ B W W' ∧ Ix (.goto t) xs W'
  | .panic _, _, _ => False
  | .outgrown, _, _ => False
theorem kept_putObj {n₀ B l : Nat} {W : World} {o : Obj} (o' : Obj) (hn : n₀ ≤ l) (hl : W.heap[l]? = some o) (hB : l < B) : Kept n₀ B W (W.putObj l o') :=
  ⟨(Below.refl n₀ W).grown (grownBy_putObj' W l o') (by have := (Array.getElem?_eq_some_iff.1 hl).1; omega) (fun k e => by cases e; omega),
   fun b hb _ => World.putObj_heap_other (by omega)⟩
theorem below_putObj {B l : Nat} {W : World} {o : Obj} (o' : Obj) (hl : W.heap[l]? = some o) (hB : B ≤ l) : Below B W (W.putObj l o') :=
  (Below.refl B W).grown (grownBy_putObj' W l o') (by have := (Array.getElem?_eq_some_iff.1 hl).1; omega) (fun k e => by cases e; omega)
variable {F : Fence} {n : Nat} {P : Program}
/-- The statement 'for .. := range seq { .. }' at the top of a function. -/
theorem wpIn_rangeB {α : Type} {g : Operand} {ps : Array Tmp} {assign body : Code} {Q : Exit → Act → World → Prop} {a : Act} {w : World}
    (hro : F.round = none) (h1 : 1 ≤ n) {gf : Nat} {lb : Array Value} (hg : a.eval g = .func (.func gf) #[] lb) (hFg : F.fn gf) (eg : ∀ args w, (callFunc gf args).run P w = .ok (.enter gf args) w)
    {n₀ : Nat} {may : List α → α → Array Value → World → Prop} {S Sp : List α → Prop} {w0 : World} (hseq : SeqB F (n - 1) P gf lb n₀ may S Sp w0)
    (hb0 : Below w0.heap.size w0 w) (hn₀ : n₀ ≤ w.heap.size) (hps : ∀ pre x vs W, may pre x vs W → vs.size = ps.size) (hmay : ∀ pre x vs W W', may pre x vs W → Below n₀ W W' → may pre x vs W')
    (I : List α → World → Prop) (Ix : Code → List α → World → Prop) (hI : AbidesBelow w.heap.size I) (hIx : ∀ c, AbidesBelow w.heap.size (Ix c)) (h0 : I [] w)
    (Ax : α → Array Value → Act → World → Prop) (hAx : ∀ x vs a' W (l : Nat) (o o' : Obj), w.heap.size ≤ l → W.heap[l]? = some o → o.isCells = false → Ax x vs a' W → Ax x vs a' (W.putObj l o'))
    (hassign : ∀ (l : Nat) (pre : List α) (x : α) (vs : Array Value) (W : World) (K : Act → World → Prop), w.heap.size ≤ W.heap.size → I pre W → may pre x vs W →
      (∀ a' W', Kept n₀ w.heap.size W W' → I pre W' → Ax x vs a' W' → K a' W') →
      assign.wpIn (F.inRound l) (n - 1 - 1) P (Exit.then K (fun _ _ _ => False)) { tmps := (ps.zip vs).foldl (fun t (p, v) => t.setIfInBounds p v) a.tmps, defers := [] } W)
    (hbody : ∀ (l : Nat) (pre : List α) (x : α) (vs : Array Value) (a' : Act) (W : World), w.heap.size ≤ W.heap.size → I pre W → may pre x vs W → Ax x vs a' W → body.wpIn (F.inRound l) (n - 1 - 1) P (postB n₀ w.heap.size I Ix (pre ++ [x]) W) a' W)
    (hdone : ∀ (D : Nat) (xs : List α) (W : World), w.heap.size ≤ D → S xs → I xs W → W.heap[D]? = some (.deferred (some [])) → Q .normal { a with defers := { target := .collected D, args := #[] } :: a.defers } W)
    (hstop : ∀ (D : Nat) (c : Code) (pre : List α) (W : World), w.heap.size ≤ D → Sp pre → Ix c pre W → W.heap[D]? = some (.deferred (some [])) → c.wpIn F n P Q { a with defers := { target := .collected D, args := #[] } :: a.defers } W) :
    (Code.rangeFunc g ps assign body).wpIn F n P Q a w := by
  refine wpIn_rangeFunc fun fn hfn => ?_
  rw [hro]
  obtain ⟨rec, hrec⟩ : ∃ rec : LoopState → Option Code → Loop, rec = fun st pe => { state := st, pending := pe, fn, tmps := a.tmps, params := ps, assign, body, defers := w.heap.size } := ⟨_, rfl⟩
  obtain ⟨W1, hW1⟩ : ∃ W1, (w.alloc (.deferred (some []))).alloc (.loop (rec .ready none)) = W1 := ⟨_, rfl⟩
  have hs1 : W1.heap.size = w.heap.size + 2 := by rw [← hW1]; simp
  have hL1 : W1.heap[w.heap.size + 1]? = some (.loop (rec .ready none)) := by
    rw [← hW1]; have := World.alloc_heap_new (w.alloc (.deferred (some []))) (.loop (rec .ready none)); rwa [World.size_alloc] at this
  have hK1 : W1.heap[w.heap.size]? = some (.deferred (some [])) := by
    rw [← hW1]; exact (Below.heap_alloc _ _ _ (by simp)).trans (World.alloc_heap_new w _)
  have hbw : Below w.heap.size w W1 := by rw [← hW1]; exact ((Below.refl _ w).alloc (Nat.le_refl _) _).alloc (by simp) _
  refine ⟨w.heap.size + 1, [{ target := .collected w.heap.size, args := #[] }], W1, { target := .fn (.func gf) lb, args := #[.func (.yield (w.heap.size + 1)) #[] #[]] }, W1, gf,
    #[.func (.yield (w.heap.size + 1)) #[] #[]] ++ lb, W1, ?_, ?_, ?_, ?_, fun _ => h1, ?_⟩
  · rw [← hW1, hrec]; exact run_enterLoop_outer _ _ _ _ _
  · simp only [resolve, hg]
    simp [go_sem]
  · intro f' hf'; simp [Target.leads] at hf'; subst hf'; exact hFg
  · simp [invoke, go_sem, eg]
  · refine (hseq (w.heap.size + 1)
      (fun pre W => I pre W ∧ W.heap[w.heap.size + 1]? = some (.loop (rec .ready none)) ∧ W.heap[w.heap.size]? = some (.deferred (some [])))
      (fun pre W => ∃ c, Ix c pre W ∧ W.heap[w.heap.size + 1]? = some (.loop (rec .done (some c))) ∧ W.heap[w.heap.size]? = some (.deferred (some [])))
      W1 (hb0.trans (hbw.mono hb0.size)) ?_ ?_ ?_ ⟨hI _ _ _ h0 hbw, hL1, hK1⟩).mono ?_
    · rintro s X Y ⟨h, hl, hk⟩ hb
      exact ⟨hI _ _ _ h (hb.mono (by omega)), (hb.block _ (by omega)).trans hl, (hb.block _ (by omega)).trans hk⟩
    · rintro s X Y ⟨c, h, hl, hk⟩ hb
      exact ⟨c, hIx _ _ _ _ h (hb.mono (by omega)), (hb.block _ (by omega)).trans hl, (hb.block _ (by omega)).trans hk⟩
    · -- one round
      rintro pre x vs W ⟨hi, hl, hk⟩ hsz hm
      have hy := run_yield (P := P) (args := vs) hl (by rw [hrec]; exact hps _ _ _ _ hm)
      rw [hrec] at hy
      refine ⟨fn, _, assign, body, hy, roundIn_of_wpIn hfn (hassign _ pre x vs W _ (by omega) hi hm ?_)⟩
      clear hy
      intro a' Wa hka hia hax
      have hla := (hka.2 _ (by omega) (by omega)).trans hl
      have hka' := (hka.2 _ (by omega) (by omega)).trans hk
      have hsa : W.heap.size ≤ Wa.heap.size := hka.1.size
      refine ⟨_, run_beginRound hla (by rw [hrec]), ?_⟩
      obtain ⟨Wb, hWb⟩ : ∃ Wb, Wa.putObj (w.heap.size + 1) (.loop { rec .ready none with state := .busy }) = Wb := ⟨_, rfl⟩
      have hlb : Wb.heap[w.heap.size + 1]? = some (.loop { rec .ready none with state := .busy }) := by rw [← hWb]; exact World.putObj_heap_same (by omega)
      have hkb : Wb.heap[w.heap.size]? = some (.deferred (some [])) := by rw [← hWb]; exact (World.putObj_heap_other (by omega)).trans hka'
      have hab : Kept n₀ (w.heap.size + 2) Wa Wb := by rw [← hWb]; exact kept_putObj _ (by omega) hla (by omega)
      have hib : I pre Wb := by rw [← hWb]; exact hI _ _ _ hia (below_putObj _ hla (by omega))
      have haxb : Ax x vs a' Wb := by rw [← hWb]; exact hAx _ _ _ _ _ _ _ (by omega) hla rfl hax
      rw [hWb]
      have hsb : Wa.heap.size ≤ Wb.heap.size := hab.1.size
      have hmb : may pre x vs Wb := hmay _ _ _ _ _ hm (hka.1.trans hab.1)
      refine wpIn_mono (hbody _ pre x vs a' Wb (by omega) hib hmb haxb) ?_
      have fin : ∀ (jump : Option Code) (W3 : World), Kept n₀ w.heap.size Wb W3 → ∃ W4, (Instr.endRound (w.heap.size + 1) jump).run P W3 = .ok (.bool jump.isNone) W4 ∧
          W4.heap[w.heap.size + 1]? = some (.loop (rec (if jump.isNone then .ready else .done) jump)) ∧ W4.heap[w.heap.size]? = some (.deferred (some [])) ∧ Below w.heap.size W3 W4 ∧ Kept n₀ (w.heap.size + 2) W W4 := by
        intro jump W3 h3
        have hl3 := (h3.2 _ (by omega) (by omega)).trans hlb
        have hk3 := (h3.2 _ (by omega) (by omega)).trans hkb
        have hs3 : Wb.heap.size ≤ W3.heap.size := h3.1.size
        have hr := run_endRound (P := P) jump hl3
        refine ⟨_, hr, ?_, (World.putObj_heap_other (by omega)).trans hk3, below_putObj _ hl3 (by omega), ?_⟩
        · rw [World.putObj_heap_same (by omega), hrec]
        · exact (((hka.mono (by omega)).trans hab).trans (h3.mono (by omega))).trans (kept_putObj _ (by omega) hl3 (by omega))
      rintro e a3 W3 hp
      rw [hs1]
      cases e with
      | normal =>
        obtain ⟨W4, hr, h4, h5, h6, h7⟩ := fin none W3 hp.1
        exact ⟨_, _, hr, .inl ⟨rfl, ⟨hI _ _ _ hp.2 h6, h4, h5⟩, h7⟩⟩
      | ret =>
        obtain ⟨W4, hr, h4, h5, h6, h7⟩ := fin (some .ret) W3 hp.1
        exact ⟨_, _, hr, .inr ⟨rfl, .ret, hIx _ _ _ _ hp.2 h6, h4, h5⟩⟩
      | exit id =>
        obtain ⟨W4, hr, h4, h5, h6, h7⟩ := fin (some (.exit id)) W3 hp.1
        exact ⟨_, _, hr, .inr ⟨rfl, .exit id, hIx _ _ _ _ hp.2 h6, h4, h5⟩⟩
      | goto t =>
        obtain ⟨W4, hr, h4, h5, h6, h7⟩ := fin (some (.goto t)) W3 hp.1
        exact ⟨_, _, hr, .inr ⟨rfl, .goto t, hIx _ _ _ _ hp.2 h6, h4, h5⟩⟩
      | panic ch => exact hp.elim
      | outgrown => exact hp.elim
    · rintro e W2 ⟨⟨v, rfl⟩, (⟨xs, hS, hi, hl, hk⟩ | ⟨pre, hSp, c, hi, hl, hk⟩)⟩
      · exact ⟨none, _, by have := run_endLoop (P := P) hl (by rw [hrec]; simp); rw [hrec] at this; exact this, hdone _ xs _ (Nat.le_refl _) hS (hI _ _ _ hi (below_putObj _ hl (by omega))) ((World.putObj_heap_other (by omega)).trans hk)⟩
      · exact ⟨some c, _, by have := run_endLoop (P := P) hl (by rw [hrec]; simp); rw [hrec] at this; exact this, hstop _ c pre _ (Nat.le_refl _) hSp (hIx _ _ _ _ hi (below_putObj _ hl (by omega))) ((World.putObj_heap_other (by omega)).trans hk)⟩
/-- As 'Kept', but from B on only blocks that are no cells, or cells of a type that is the iterator's own, are kept. -/
def KeptO (n₀ B : Nat) (own : TypeId → Bool) (W W' : World) : Prop :=
  Below n₀ W W' ∧ ∀ b, B ≤ b → b < W.heap.size → (∀ cs e fz, W.heap[b]? = some (.cells cs e fz) → own e = true) → W'.heap[b]? = W.heap[b]?
theorem Kept.toO {n₀ B : Nat} {W W' : World} (h : Kept n₀ B W W') (own : TypeId → Bool) : KeptO n₀ B own W W' := ⟨h.1, fun b hb hl _ => h.2 b hb hl⟩
theorem KeptO.refl (n₀ B : Nat) (own : TypeId → Bool) (W : World) : KeptO n₀ B own W W := ⟨Below.refl _ _, fun _ _ _ _ => rfl⟩
theorem KeptO.trans {n₀ B : Nat} {own : TypeId → Bool} {X Y Z : World} (h : KeptO n₀ B own X Y) (k : KeptO n₀ B own Y Z) : KeptO n₀ B own X Z :=
  ⟨h.1.trans k.1, fun b hb hl ho => by
    have e := h.2 b hb hl ho
    exact (k.2 b hb (Nat.lt_of_lt_of_le hl h.1.size) (by rw [e]; exact ho)).trans e⟩
theorem KeptO.mono {n₀ B B' : Nat} {own : TypeId → Bool} {X Y : World} (h : KeptO n₀ B own X Y) (hB : B ≤ B') : KeptO n₀ B' own X Y := ⟨h.1, fun b hb hl ho => h.2 b (by omega) hl ho⟩
theorem KeptO.at {n₀ B : Nat} {own : TypeId → Bool} {X Y : World} (h : KeptO n₀ B own X Y) {b : Nat} (hb : B ≤ b) {cs : Array Value} {e : TypeId} {fz : Nat × Nat} (hc : X.heap[b]? = some (.cells cs e fz)) (ho : own e = true) : Y.heap[b]? = X.heap[b]? :=
  h.2 b hb (Array.getElem?_eq_some_iff.1 hc).1 (fun cs' e' fz' hc' => by rw [hc] at hc'; cases hc'; exact ho)
theorem KeptO.obj {n₀ B : Nat} {own : TypeId → Bool} {X Y : World} (h : KeptO n₀ B own X Y) {b : Nat} (hb : B ≤ b) {o : Obj} (hc : X.heap[b]? = some o) (ho : o.isCells = false) : Y.heap[b]? = X.heap[b]? :=
  h.2 b hb (Array.getElem?_eq_some_iff.1 hc).1 (fun cs' e' fz' hc' => by rw [hc] at hc'; cases hc'; cases ho)
/-- What an iterator may do to the world: blocks below B stay, and cells of any type but e. -/
def Chg (B : Nat) (e : TypeId) (W W' : World) : Prop := Below B W W' ∧ ∀ (b : Nat) (cs : Array Value) (e' : TypeId) (fz : Nat × Nat), W.heap[b]? = some (Obj.cells cs e' fz) → e' ≠ e → W'.heap[b]? = W.heap[b]?
theorem Chg.mono {B B' : Nat} {e : TypeId} {W W' : World} (h : Chg B e W W') (hB : B' ≤ B) : Chg B' e W W' := ⟨h.1.mono hB, h.2⟩
theorem Chg.alloc (B : Nat) (e : TypeId) (W : World) (hB : B ≤ W.heap.size) (o : Obj) : Chg B e W (W.alloc o) :=
  ⟨(Below.refl _ _).alloc hB o, fun b cs e' fz h _ => Below.heap_alloc _ _ _ (Array.getElem?_eq_some_iff.1 h).1⟩
theorem Chg.putObj {B l : Nat} (e : TypeId) {W : World} {o : Obj} (o' : Obj) (hl : W.heap[l]? = some o) (ho : o.isCells = false) (hB : B ≤ l) : Chg B e W (W.putObj l o') :=
  ⟨below_putObj o' hl hB, fun b cs e' fz h _ => World.putObj_heap_other (fun hc => by subst hc; rw [hl] at h; cases h; cases ho)⟩
theorem Chg.trans {B : Nat} {e : TypeId} {X Y Z : World} (h : Chg B e X Y) (k : Chg B e Y Z) : Chg B e X Z :=
  ⟨h.1.trans k.1, fun b cs e' fz hc he => by have e1 := h.2 b cs e' fz hc he; exact (k.2 b cs e' fz (e1.trans hc) he).trans e1⟩
def AbidesChg {β : Type} (B : Nat) (e : TypeId) (J : β → World → Prop) : Prop := ∀ s W W', J s W → Chg B e W W' → J s W'
theorem AbidesBelow.toChg {β : Type} {B : Nat} {J : β → World → Prop} (h : AbidesBelow B J) (e : TypeId) : AbidesChg B e J := fun s W W' hs hc => h s W W' hs hc.1
/-- The contract of an iterator value that keeps cells of type e of its own, and reads those of the types 'own'. -/
def SeqO {α : Type} (F : Fence) (n : Nat) (P : Program) (g : Nat) (lb : Array Value) (n₀ : Nat) (e : TypeId) (own : TypeId → Bool) (may : List α → α → Array Value → World → Prop) (S Sp : List α → Prop) (w : World) : Prop :=
  ∀ (l : Nat) (J Jx : List α → World → Prop) (W : World), Below w.heap.size w W → AbidesChg W.heap.size e J → AbidesChg W.heap.size e Jx →
    (∀ pre x vs W1, J pre W1 → W.heap.size ≤ W1.heap.size → may pre x vs W1 → YieldAt F (n - 1) P l vs W1 fun e W' =>
      (e = .returned (.bool true) ∧ J (pre ++ [x]) W' ∧ KeptO n₀ W.heap.size own W1 W') ∨ (e = .returned (.bool false) ∧ Jx (pre ++ [x]) W')) →
    J [] W →
    CallsIn F n P g (#[.func (.yield l) #[] #[]] ++ lb) W fun e W' => (∃ v, e = .returned v) ∧ ((∃ xs, S xs ∧ J xs W') ∨ (∃ pre, Sp pre ∧ Jx pre W'))
theorem SeqO.toB {α : Type} {F : Fence} {n : Nat} {P : Program} {g : Nat} {lb : Array Value} {n₀ : Nat} {e : TypeId} {own : TypeId → Bool} {may : List α → α → Array Value → World → Prop} {S Sp : List α → Prop} {w : World}
    (h : SeqO F n P g lb n₀ e own may S Sp w) : SeqB F n P g lb n₀ may S Sp w := fun l J Jx W hW hJ hJx hY h0 =>
  h l J Jx W hW (hJ.toChg e) (hJx.toChg e) (fun pre x vs W1 hj hs hm => by
    obtain ⟨fn, tmps, assign, body, hy, hR⟩ := hY pre x vs W1 hj hs hm
    exact ⟨fn, tmps, assign, body, hy, hR.mono (fun e w' hr => hr.imp (fun r => ⟨r.1, r.2.1, r.2.2.toO own⟩) id)⟩) h0
/-- The contract of an iterator value that reads memory of which the caller's invariant tells: 'inv'. -/
def SeqV {α : Type} (F : Fence) (n : Nat) (P : Program) (g : Nat) (lb : Array Value) (n₀ : Nat) (inv : World → Prop) (may : List α → α → Array Value → World → Prop) (S Sp : List α → Prop) (w : World) : Prop :=
  ∀ (l : Nat) (J Jx : List α → World → Prop) (W : World), Below w.heap.size w W → AbidesBelow W.heap.size J → AbidesBelow W.heap.size Jx → (∀ pre W1, J pre W1 → inv W1) →
    (∀ pre x vs W1, J pre W1 → W.heap.size ≤ W1.heap.size → may pre x vs W1 → YieldAt F (n - 1) P l vs W1 fun e W' =>
      (e = .returned (.bool true) ∧ J (pre ++ [x]) W' ∧ Kept n₀ W.heap.size W1 W') ∨ (e = .returned (.bool false) ∧ Jx (pre ++ [x]) W')) →
    J [] W →
    CallsIn F n P g (#[.func (.yield l) #[] #[]] ++ lb) W fun e W' => (∃ v, e = .returned v) ∧ ((∃ xs, S xs ∧ J xs W') ∨ (∃ pre, Sp pre ∧ Jx pre W'))
/-- The statement, where the iterator reads memory of which the caller's invariant tells. -/
theorem wpIn_rangeV {α : Type} {g : Operand} {ps : Array Tmp} {assign body : Code} {Q : Exit → Act → World → Prop} {a : Act} {w : World}
    (hro : F.round = none) (h1 : 1 ≤ n) {gf : Nat} {lb : Array Value} (hg : a.eval g = .func (.func gf) #[] lb) (hFg : F.fn gf) (eg : ∀ args w, (callFunc gf args).run P w = .ok (.enter gf args) w)
    {n₀ : Nat} {inv : World → Prop} {may : List α → α → Array Value → World → Prop} {S Sp : List α → Prop} {w0 : World} (hseq : SeqV F (n - 1) P gf lb n₀ inv may S Sp w0)
    (hb0 : Below w0.heap.size w0 w) (hn₀ : n₀ ≤ w.heap.size) (hps : ∀ pre x vs W, may pre x vs W → vs.size = ps.size) (hmay : ∀ pre x vs W W', may pre x vs W → Below n₀ W W' → may pre x vs W')
    (I : List α → World → Prop) (Ix : Code → List α → World → Prop) (hI : AbidesBelow w.heap.size I) (hIx : ∀ c, AbidesBelow w.heap.size (Ix c)) (h0 : I [] w) (hinv : ∀ pre W, I pre W → inv W)
    (Ax : α → Array Value → Act → World → Prop) (hAx : ∀ x vs a' W (l : Nat) (o o' : Obj), w.heap.size ≤ l → W.heap[l]? = some o → o.isCells = false → Ax x vs a' W → Ax x vs a' (W.putObj l o'))
    (hassign : ∀ (l : Nat) (pre : List α) (x : α) (vs : Array Value) (W : World) (K : Act → World → Prop), w.heap.size ≤ W.heap.size → I pre W → may pre x vs W →
      (∀ a' W', Kept n₀ w.heap.size W W' → I pre W' → Ax x vs a' W' → K a' W') →
      assign.wpIn (F.inRound l) (n - 1 - 1) P (Exit.then K (fun _ _ _ => False)) { tmps := (ps.zip vs).foldl (fun t (p, v) => t.setIfInBounds p v) a.tmps, defers := [] } W)
    (hbody : ∀ (l : Nat) (pre : List α) (x : α) (vs : Array Value) (a' : Act) (W : World), w.heap.size ≤ W.heap.size → I pre W → may pre x vs W → Ax x vs a' W → body.wpIn (F.inRound l) (n - 1 - 1) P (postB n₀ w.heap.size I Ix (pre ++ [x]) W) a' W)
    (hdone : ∀ (D : Nat) (xs : List α) (W : World), w.heap.size ≤ D → S xs → I xs W → W.heap[D]? = some (.deferred (some [])) → Q .normal { a with defers := { target := .collected D, args := #[] } :: a.defers } W)
    (hstop : ∀ (D : Nat) (c : Code) (pre : List α) (W : World), w.heap.size ≤ D → Sp pre → Ix c pre W → W.heap[D]? = some (.deferred (some [])) → c.wpIn F n P Q { a with defers := { target := .collected D, args := #[] } :: a.defers } W) :
    (Code.rangeFunc g ps assign body).wpIn F n P Q a w := by
  refine wpIn_rangeFunc fun fn hfn => ?_
  rw [hro]
  obtain ⟨rec, hrec⟩ : ∃ rec : LoopState → Option Code → Loop, rec = fun st pe => { state := st, pending := pe, fn, tmps := a.tmps, params := ps, assign, body, defers := w.heap.size } := ⟨_, rfl⟩
  obtain ⟨W1, hW1⟩ : ∃ W1, (w.alloc (.deferred (some []))).alloc (.loop (rec .ready none)) = W1 := ⟨_, rfl⟩
  have hs1 : W1.heap.size = w.heap.size + 2 := by rw [← hW1]; simp
  have hL1 : W1.heap[w.heap.size + 1]? = some (.loop (rec .ready none)) := by
    rw [← hW1]; have := World.alloc_heap_new (w.alloc (.deferred (some []))) (.loop (rec .ready none)); rwa [World.size_alloc] at this
  have hK1 : W1.heap[w.heap.size]? = some (.deferred (some [])) := by
    rw [← hW1]; exact (Below.heap_alloc _ _ _ (by simp)).trans (World.alloc_heap_new w _)
  have hbw : Below w.heap.size w W1 := by rw [← hW1]; exact ((Below.refl _ w).alloc (Nat.le_refl _) _).alloc (by simp) _
  refine ⟨w.heap.size + 1, [{ target := .collected w.heap.size, args := #[] }], W1, { target := .fn (.func gf) lb, args := #[.func (.yield (w.heap.size + 1)) #[] #[]] }, W1, gf,
    #[.func (.yield (w.heap.size + 1)) #[] #[]] ++ lb, W1, ?_, ?_, ?_, ?_, fun _ => h1, ?_⟩
  · rw [← hW1, hrec]; exact run_enterLoop_outer _ _ _ _ _
  · simp only [resolve, hg]
    simp [go_sem]
  · intro f' hf'; simp [Target.leads] at hf'; subst hf'; exact hFg
  · simp [invoke, go_sem, eg]
  · refine (hseq (w.heap.size + 1)
      (fun pre W => I pre W ∧ W.heap[w.heap.size + 1]? = some (.loop (rec .ready none)) ∧ W.heap[w.heap.size]? = some (.deferred (some [])))
      (fun pre W => ∃ c, Ix c pre W ∧ W.heap[w.heap.size + 1]? = some (.loop (rec .done (some c))) ∧ W.heap[w.heap.size]? = some (.deferred (some [])))
      W1 (hb0.trans (hbw.mono hb0.size)) ?_ ?_ (fun pre W h => hinv pre W h.1) ?_ ⟨hI _ _ _ h0 hbw, hL1, hK1⟩).mono ?_
    · rintro s X Y ⟨h, hl, hk⟩ hb
      exact ⟨hI _ _ _ h (hb.mono (by omega)), (hb.block _ (by omega)).trans hl, (hb.block _ (by omega)).trans hk⟩
    · rintro s X Y ⟨c, h, hl, hk⟩ hb
      exact ⟨c, hIx _ _ _ _ h (hb.mono (by omega)), (hb.block _ (by omega)).trans hl, (hb.block _ (by omega)).trans hk⟩
    · -- one round
      rintro pre x vs W ⟨hi, hl, hk⟩ hsz hm
      have hy := run_yield (P := P) (args := vs) hl (by rw [hrec]; exact hps _ _ _ _ hm)
      rw [hrec] at hy
      refine ⟨fn, _, assign, body, hy, roundIn_of_wpIn hfn (hassign _ pre x vs W _ (by omega) hi hm ?_)⟩
      clear hy
      intro a' Wa hka hia hax
      have hla := (hka.2 _ (by omega) (by omega)).trans hl
      have hka' := (hka.2 _ (by omega) (by omega)).trans hk
      have hsa : W.heap.size ≤ Wa.heap.size := hka.1.size
      refine ⟨_, run_beginRound hla (by rw [hrec]), ?_⟩
      obtain ⟨Wb, hWb⟩ : ∃ Wb, Wa.putObj (w.heap.size + 1) (.loop { rec .ready none with state := .busy }) = Wb := ⟨_, rfl⟩
      have hlb : Wb.heap[w.heap.size + 1]? = some (.loop { rec .ready none with state := .busy }) := by rw [← hWb]; exact World.putObj_heap_same (by omega)
      have hkb : Wb.heap[w.heap.size]? = some (.deferred (some [])) := by rw [← hWb]; exact (World.putObj_heap_other (by omega)).trans hka'
      have hab : Kept n₀ (w.heap.size + 2) Wa Wb := by rw [← hWb]; exact kept_putObj _ (by omega) hla (by omega)
      have hib : I pre Wb := by rw [← hWb]; exact hI _ _ _ hia (below_putObj _ hla (by omega))
      have haxb : Ax x vs a' Wb := by rw [← hWb]; exact hAx _ _ _ _ _ _ _ (by omega) hla rfl hax
      rw [hWb]
      have hsb : Wa.heap.size ≤ Wb.heap.size := hab.1.size
      have hmb : may pre x vs Wb := hmay _ _ _ _ _ hm (hka.1.trans hab.1)
      refine wpIn_mono (hbody _ pre x vs a' Wb (by omega) hib hmb haxb) ?_
      have fin : ∀ (jump : Option Code) (W3 : World), Kept n₀ w.heap.size Wb W3 → ∃ W4, (Instr.endRound (w.heap.size + 1) jump).run P W3 = .ok (.bool jump.isNone) W4 ∧
          W4.heap[w.heap.size + 1]? = some (.loop (rec (if jump.isNone then .ready else .done) jump)) ∧ W4.heap[w.heap.size]? = some (.deferred (some [])) ∧ Below w.heap.size W3 W4 ∧ Kept n₀ (w.heap.size + 2) W W4 := by
        intro jump W3 h3
        have hl3 := (h3.2 _ (by omega) (by omega)).trans hlb
        have hk3 := (h3.2 _ (by omega) (by omega)).trans hkb
        have hs3 : Wb.heap.size ≤ W3.heap.size := h3.1.size
        have hr := run_endRound (P := P) jump hl3
        refine ⟨_, hr, ?_, (World.putObj_heap_other (by omega)).trans hk3, below_putObj _ hl3 (by omega), ?_⟩
        · rw [World.putObj_heap_same (by omega), hrec]
        · exact (((hka.mono (by omega)).trans hab).trans (h3.mono (by omega))).trans (kept_putObj _ (by omega) hl3 (by omega))
      rintro e a3 W3 hp
      rw [hs1]
      cases e with
      | normal =>
        obtain ⟨W4, hr, h4, h5, h6, h7⟩ := fin none W3 hp.1
        exact ⟨_, _, hr, .inl ⟨rfl, ⟨hI _ _ _ hp.2 h6, h4, h5⟩, h7⟩⟩
      | ret =>
        obtain ⟨W4, hr, h4, h5, h6, h7⟩ := fin (some .ret) W3 hp.1
        exact ⟨_, _, hr, .inr ⟨rfl, .ret, hIx _ _ _ _ hp.2 h6, h4, h5⟩⟩
      | exit id =>
        obtain ⟨W4, hr, h4, h5, h6, h7⟩ := fin (some (.exit id)) W3 hp.1
        exact ⟨_, _, hr, .inr ⟨rfl, .exit id, hIx _ _ _ _ hp.2 h6, h4, h5⟩⟩
      | goto t =>
        obtain ⟨W4, hr, h4, h5, h6, h7⟩ := fin (some (.goto t)) W3 hp.1
        exact ⟨_, _, hr, .inr ⟨rfl, .goto t, hIx _ _ _ _ hp.2 h6, h4, h5⟩⟩
      | panic ch => exact hp.elim
      | outgrown => exact hp.elim
    · rintro e W2 ⟨⟨v, rfl⟩, (⟨xs, hS, hi, hl, hk⟩ | ⟨pre, hSp, c, hi, hl, hk⟩)⟩
      · exact ⟨none, _, by have := run_endLoop (P := P) hl (by rw [hrec]; simp); rw [hrec] at this; exact this, hdone _ xs _ (Nat.le_refl _) hS (hI _ _ _ hi (below_putObj _ hl (by omega))) ((World.putObj_heap_other (by omega)).trans hk)⟩
      · exact ⟨some c, _, by have := run_endLoop (P := P) hl (by rw [hrec]; simp); rw [hrec] at this; exact this, hstop _ c pre _ (Nat.le_refl _) hSp (hIx _ _ _ _ hi (below_putObj _ hl (by omega))) ((World.putObj_heap_other (by omega)).trans hk)⟩
/-- .. with what the assignment leaves said over the frame at the loop. -/
theorem wpIn_rangeVa {α : Type} {g : Operand} {ps : Array Tmp} {assign body : Code} {Q : Exit → Act → World → Prop} {a : Act} {w : World}
    (hro : F.round = none) (h1 : 1 ≤ n) {gf : Nat} {lb : Array Value} (hg : a.eval g = .func (.func gf) #[] lb) (hFg : F.fn gf) (eg : ∀ args w, (callFunc gf args).run P w = .ok (.enter gf args) w)
    {n₀ : Nat} {inv : World → Prop} {may : List α → α → Array Value → World → Prop} {S Sp : List α → Prop} {w0 : World} (hseq : SeqV F (n - 1) P gf lb n₀ inv may S Sp w0)
    (hb0 : Below w0.heap.size w0 w) (hn₀ : n₀ ≤ w.heap.size) (hps : ∀ pre x vs W, may pre x vs W → vs.size = ps.size) (hmay : ∀ pre x vs W W', may pre x vs W → Below n₀ W W' → may pre x vs W')
    (I : List α → World → Prop) (Ix : Code → List α → World → Prop) (hI : AbidesBelow w.heap.size I) (hIx : ∀ c, AbidesBelow w.heap.size (Ix c)) (h0 : I [] w) (hinv : ∀ pre W, I pre W → inv W)
    (Ax : Act → α → Array Value → Act → World → Prop) (hAx : ∀ x vs a' W (l : Nat) (o o' : Obj), w.heap.size ≤ l → W.heap[l]? = some o → o.isCells = false → Ax a x vs a' W → Ax a x vs a' (W.putObj l o'))
    (hassign : ∀ (l : Nat) (pre : List α) (x : α) (vs : Array Value) (W : World) (K : Act → World → Prop), w.heap.size ≤ W.heap.size → I pre W → may pre x vs W →
      (∀ a' W', Kept n₀ w.heap.size W W' → I pre W' → Ax a x vs a' W' → K a' W') →
      assign.wpIn (F.inRound l) (n - 1 - 1) P (Exit.then K (fun _ _ _ => False)) { tmps := (ps.zip vs).foldl (fun t (p, v) => t.setIfInBounds p v) a.tmps, defers := [] } W)
    (hbody : ∀ (l : Nat) (pre : List α) (x : α) (vs : Array Value) (a' : Act) (W : World), w.heap.size ≤ W.heap.size → I pre W → may pre x vs W → Ax a x vs a' W → body.wpIn (F.inRound l) (n - 1 - 1) P (postB n₀ w.heap.size I Ix (pre ++ [x]) W) a' W)
    (hdone : ∀ (D : Nat) (xs : List α) (W : World), w.heap.size ≤ D → S xs → I xs W → W.heap[D]? = some (.deferred (some [])) → Q .normal { a with defers := { target := .collected D, args := #[] } :: a.defers } W)
    (hstop : ∀ (D : Nat) (c : Code) (pre : List α) (W : World), w.heap.size ≤ D → Sp pre → Ix c pre W → W.heap[D]? = some (.deferred (some [])) → c.wpIn F n P Q { a with defers := { target := .collected D, args := #[] } :: a.defers } W) :
    (Code.rangeFunc g ps assign body).wpIn F n P Q a w :=
  wpIn_rangeV hro h1 hg hFg eg hseq hb0 hn₀ hps hmay I Ix hI hIx h0 hinv (Ax a) hAx hassign hbody hdone hstop
/-- A scope through which the run goes without a goto, inside a fence. -/
theorem stepR_scope {b : Frame} {a : Act} {k : List Item} {cs : List Frame} {w : World} {c : Code} : step P (lone (b.atR a (.code (.scope c) :: k)) cs w) = .next (lone (b.atR a (.code c :: .inScope c :: k)) cs w) :=
  step_lone_go (by simp [stepG, stepG.exec, Frame.atR])
theorem stepR_inScope {b : Frame} {a : Act} {k : List Item} {cs : List Frame} {w : World} {c : Code} : step P (lone (b.atR a (.inScope c :: k)) cs w) = .next (lone (b.atR a k) cs w) :=
  step_lone_go (by simp [stepG, stepG.exec, Frame.atR])
theorem wpIn_scope {Q : Exit → Act → World → Prop} {a : Act} {w : World} {c : Code} (h : c.wpIn F n P (Exit.noGoto Q) a w) : (Code.scope c).wpIn F n P Q a w := by
  intro b k cs hro hb hr
  have h0 : (lone (b.atR a (.code (.scope c) :: k)) cs w).fenced P F := fenced_calm hb hr rfl
  obtain ⟨e, a₁, w₁, hq, harr⟩ := h b (.inScope c :: k) cs hro hb hr
  cases e with
  | normal => exact ⟨.normal, a₁, w₁, hq, .head h0 stepR_scope (StepsIn.trans harr (.one (fenced_calm hb hr rfl) stepR_inScope))⟩
  | exit id =>
    have hx : exitTo id (.inScope c :: k) = exitTo id k := by simp [exitTo]
    exact ⟨.exit id, a₁, w₁, hq, fun k' hk => .head h0 stepR_scope (harr.1 k' (by rw [hx]; exact hk)),
      fun hr' hk => let ⟨k₁, h1, h2⟩ := harr.2 hr' (by rw [hx]; exact hk); ⟨k₁, h1, .head h0 stepR_scope h2⟩⟩
  | goto l => exact hq.elim
  | ret => exact ⟨_, a₁, w₁, hq, .of_steps (.one h0 stepR_scope) harr⟩
  | panic ch => exact ⟨_, a₁, w₁, hq, .of_steps (.one h0 stepR_scope) harr⟩
  | outgrown => exact ⟨_, a₁, w₁, hq, .of_steps (.one h0 stepR_scope) harr⟩
end Go.Proofs.YtpncmdlbmnmahaaGreat

/- Contracts of the small functions: isVariable, variable, Var, Fun, subterms. -/
namespace Go.Proofs.YtpncmdlbmnmahaaGreat
set_option linter.unusedVariables false
set_option linter.unusedSimpArgs false
open Go.RowKit
abbrev tm (h : Int) (a : Option Addr) (k c : Nat) : Value := .agg #[.int .i64 h, .slice a k c]
abbrev tmCells (h : Int) (a : Option Addr) (k c : Nat) : Obj := .cells #[.int .i64 h, .slice a k c] 42
theorem isVariable_any (h : Int) (a : Option Addr) (k c : Nat) (w : World) :
    Calls Tryz.prog 133 #[tm h a k c] w fun e w' => e = .returned (.bool (decide (h < 0))) ∧ w' = w.alloc (tmCells h a k c) := by
  go_enter Tryz.func133, Tryz.ntmps133
  go_wp2
  go_ret
  exact ⟨rfl, rfl⟩
theorem variable_any (h : Int) (a : Option Addr) (k c : Nat) (w : World) (h1 : -9223372036854775808 ≤ h) (h2 : h < 0) :
    Calls Tryz.prog 134 #[tm h a k c] w fun e w' => e = .returned (.int .i64 (-1 - h)) ∧ w' = w.alloc (tmCells h a k c) := by
  go_enter Tryz.func134, Tryz.ntmps134
  go_wp2
  go_ret
  exact ⟨rfl, rfl⟩
theorem fun_any (h : Int) (a : Option Addr) (k c : Nat) (w : World) :
    Calls Tryz.prog 32 #[.int .i64 h, .slice a k c] w fun e w' => e = .returned (tm h a k c) ∧ Below w.heap.size w w' := by
  go_enter Tryz.func32, Tryz.ntmps32
  go_wp2
  exact bodyPost_ret (v := tm h a k c) (by simp [results, Tryz.results32, go_sem]) rfl ⟨rfl, ((Below.refl _ _).alloc (Nat.le_refl _) _)⟩
theorem subterms_any (h : Int) (a : Option Addr) (k c : Nat) (w : World) :
    Calls Tryz.prog 111 #[tm h a k c] w fun e w' => e = .returned (.func (.func 132) #[] #[.pointer (some ⟨w.heap.size, 0, none⟩)]) ∧ w' = w.alloc (tmCells h a k c) := by
  go_enter Tryz.func111, Tryz.ntmps111
  go_wp2
  go_ret
  exact ⟨rfl, rfl⟩
/-- What 'allowed' says of a subterm. -/
def okB (h : Int) (k : Nat) : Bool := if h < 0 then decide (k = 0) && decide (-1 - h ≤ 255) else decide (h ≤ 1023) && decide (k ≤ 8)
theorem allowed_any (h : Int) (a : Option Addr) (k c : Nat) (w : World) (h1 : -9223372036854775808 ≤ h) :
    Calls Tryz.prog 112 #[tm h a k c] w fun e w' => e = .returned (.bool (okB h k)) ∧ Below w.heap.size w w' := by
  by_cases hh : h < 0
  · by_cases hk : k = 0
    · subst hk
      have hb : decide (h < 0) = true := by simpa using hh
      go_enter Tryz.func112, Tryz.ntmps112
      go_wp2_with (first | (go_at_call 133; refine (isVariable_any _ _ _ _ _).mono ?_; rintro e w' ⟨rfl, rfl⟩) | (go_at_call 134; refine (variable_any _ _ _ _ _ h1 hh).mono ?_; rintro e w' ⟨rfl, rfl⟩))
      go_ret
      refine ⟨?_, ?_⟩
      · simp [okB, hh]
      · exact (((Below.refl _ _).alloc (Nat.le_refl _) _).alloc (by simp) _).alloc (by simp; omega) _
    · have hb : decide (h < 0) = true := by simpa using hh
      have hk' : ((k : Int) == 0) = false := by simpa using hk
      go_enter Tryz.func112, Tryz.ntmps112
      go_wp2_with (go_at_call 133; refine (isVariable_any _ _ _ _ _).mono ?_; rintro e w' ⟨rfl, rfl⟩)
      go_ret
      refine ⟨?_, ?_⟩
      · simp [okB, hh, hk]
      · exact ((Below.refl _ _).alloc (Nat.le_refl _) _).alloc (by simp) _
  · have hb : decide (h < 0) = false := by simpa using hh
    by_cases hm : h ≤ 1023
    · have hm' : decide (h ≤ 1023) = true := by simpa using hm
      go_enter Tryz.func112, Tryz.ntmps112
      go_wp2_with (go_at_call 133; refine (isVariable_any _ _ _ _ _).mono ?_; rintro e w' ⟨rfl, rfl⟩)
      go_ret
      refine ⟨?_, ?_⟩
      · rw [okB, if_neg (by omega), decide_eq_true hm]; simp; omega
      · exact ((Below.refl _ _).alloc (Nat.le_refl _) _).alloc (by simp) _
    · have hm' : decide (h ≤ 1023) = false := by simpa using hm
      go_enter Tryz.func112, Tryz.ntmps112
      go_wp2_with (go_at_call 133; refine (isVariable_any _ _ _ _ _).mono ?_; rintro e w' ⟨rfl, rfl⟩)
      go_ret
      refine ⟨?_, ?_⟩
      · rw [okB, if_neg (by omega)]; simp; omega
      · exact ((Below.refl _ _).alloc (Nat.le_refl _) _).alloc (by simp) _
end Go.Proofs.YtpncmdlbmnmahaaGreat
