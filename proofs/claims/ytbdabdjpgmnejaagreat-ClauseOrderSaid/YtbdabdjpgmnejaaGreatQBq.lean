/- QBq: joined of AC0, Rg, Law, Law7. -/
import Derived.Test.YtbdabdjpgmnejaaGreatQBf
import Derived.Deep.RegionHeld3
import Derived.Test.YtbdabdjpgmnejaaGreatQBb
import Derived.Deep.RegionLaw
import Derived.Deep.CutRange
import Derived.Test.YtbdabdjpgmnejaaGreatRows
import Derived.ProofKit
import Derived.OpenShut
import Derived.Carry
import Derived.Lib.SmallJoins
import Derived.ChangeMaps5
/- A block of cells, in every later world: what walks of examples keep. -/
namespace Go.Proofs.YtbdabdjpgmnejaaGreat
set_option linter.unusedVariables false
set_option linter.unusedSimpArgs false
open Go.RowKit

/-- A block of cells, in every later world. -/
def Cs (b : Nat) (cs : List Value) (X : World) : Prop := b < X.heap.size ∧ ∀ i u, cs[i]? = some u → X.cell? ⟨b, i, none⟩ = some u
theorem later_cs (W : World) (cs : Array Value) (ty : TypeId) : Later (Cs W.heap.size cs.toList) (W.alloc (.cells cs ty)) := fun X hX =>
  ⟨by have := hX.size; simp at this; omega, fun i u hu => (hX.cell (p := ⟨W.heap.size, i, none⟩) (by simp)).trans (by
    have h := MapKept.heap_alloc W (.cells cs ty)
    simp only [World.cell?, h.1]
    simpa using hu)⟩
theorem Later.pushC {F : World → Prop} {W W' : World} (k : Later F W) (hb : Below W.heap.size W W') (cs : Array Value) (ty : TypeId) : Later (fun X => Cs W'.heap.size cs.toList X ∧ F X) (W'.alloc (.cells cs ty)) :=
  (k.mv (hb.alloc hb.size _)).and (later_cs W' cs ty)
theorem Later.step {F : World → Prop} {W W' : World} (k : Later F W) (hb : Below W.heap.size W W') : Later F W' := k.mv hb

theorem bl_call {w X u : World} (hX : Below w.heap.size w X) (hu : Below X.heap.size X u) : Below w.heap.size w u := hX.trans (hu.mono hX.size)
theorem vc_lt {b : Nat} {h : Int} {a : Option Addr} {n c : Nat} {X : World} (h : Vc b h a n c X) : b < X.heap.size := World.block_lt_of_cell? X ⟨b, 0, none⟩ h.1
end Go.Proofs.YtbdabdjpgmnejaaGreat

/- Kit for walks of examples whose regions draw their order: cells, boxes and worlds carried through allocations, draws and calls. -/
namespace Go.Proofs.YtbdabdjpgmnejaaGreat
set_option linter.unusedVariables false
set_option linter.unusedSimpArgs false
open Go.RowKit

theorem funk_any (h : Int) (a : Option Addr) (k c : Nat) (w : World) : Calls Tryz.prog 37 #[.int .i64 h, .slice a k c] w fun e u =>
    e = .returned (tm h a k c) ∧ (∀ b o, b < w.heap.size → u.cell? ⟨b, o, none⟩ = w.cell? ⟨b, o, none⟩) ∧ (∀ b o, b < w.heap.size → u.frozen? ⟨b, o, none⟩ = w.frozen? ⟨b, o, none⟩) ∧ w.heap.size ≤ u.heap.size ∧ Hid (Below w.heap.size w u) :=
  (fun_any h a k c w).mono fun e u ⟨he, hb⟩ => ⟨he, fun b o hbo => hb.cell (p := ⟨b, o, none⟩) hbo, fun b o hbo => hb.frozen (p := ⟨b, o, none⟩) hbo, hb.size, Lib.hid hb⟩
/-- A variable of type Term that is still zero. -/
def Bx (b : Nat) (W : World) : Prop := W.cell? ⟨b, 0, none⟩ = some (.int .i64 0) ∧ W.cell? ⟨b, 1, none⟩ = some (.slice none 0 0) ∧ W.frozen? ⟨b, 0, none⟩ = false ∧ W.frozen? ⟨b, 1, none⟩ = false ∧ b < W.heap.size
theorem Bx.new' {W : World} {b : Nat} {ob : Obj} (h : W.heap.size = b) (hc : ob = .cells #[.int .i64 0, .slice none 0 0] 34) : Bx b (W.alloc ob) := by
  subst h; subst hc; exact ⟨by simp [go_sem], by simp [go_sem], by simp [go_sem], by simp [go_sem], by simp⟩
theorem Bx.bl {W X : World} {b : Nat} (h : Bx b W) (hb : Below W.heap.size W X) : Bx b X := by
  obtain ⟨h1, h2, h3, h4, h5⟩ := h
  exact ⟨(hb.cell (p := ⟨b, 0, none⟩) h5).trans h1, (hb.cell (p := ⟨b, 1, none⟩) h5).trans h2, (hb.frozen (p := ⟨b, 0, none⟩) h5).trans h3, (hb.frozen (p := ⟨b, 1, none⟩) h5).trans h4, Nat.lt_of_lt_of_le h5 hb.size⟩
theorem Bx.al {W : World} {b : Nat} (h : Bx b W) (ob : Obj) : Bx b (W.alloc ob) := h.bl ((Below.refl _ _).alloc (Nat.le_refl _) _)
theorem Bx.dr {W : World} {b : Nat} (h : Bx b W) : Bx b W.drew := h
theorem Cs.new' {W : World} {b : Nat} {cs : List Value} {ty : TypeId} (h : W.heap.size = b) : Cs b cs (W.alloc (.cells cs.toArray ty)) := by
  subst h; exact (later_cs W cs.toArray ty).now
theorem Cs.bl {W X : World} {b : Nat} {cs : List Value} (h : Cs b cs W) (hb : Below W.heap.size W X) : Cs b cs X :=
  ⟨Nat.lt_of_lt_of_le h.1 hb.size, fun i u hu => (hb.cell (p := ⟨b, i, none⟩) h.1).trans (h.2 i u hu)⟩
theorem Cs.al {W : World} {b : Nat} {cs : List Value} (h : Cs b cs W) (ob : Obj) : Cs b cs (W.alloc ob) := h.bl ((Below.refl _ _).alloc (Nat.le_refl _) _)
theorem Cs.dr {W : World} {b : Nat} {cs : List Value} (h : Cs b cs W) : Cs b cs W.drew := h
theorem Cs.set {W : World} {b b' o : Nat} {cs : List Value} {u : Value} (h : Cs b cs W) (hne : b ≠ b') : Cs b cs (W.setCell ⟨b', o, none⟩ u) :=
  ⟨by simpa using h.1, fun i v hv => by rw [World.cell?_setCell_other _ _ _ _ (by intro e; injection e with e1 _ _; exact hne e1.symm)]; exact h.2 i v hv⟩
theorem bxHave {P : Prop} {W X : World} {b : Nat} (h : Bx b W) (hb : Below W.heap.size W X) (k : Hid (Bx b X) → X.cell? ⟨b, 0, none⟩ = some (.int .i64 0) → X.cell? ⟨b, 1, none⟩ = some (.slice none 0 0) → X.frozen? ⟨b, 0, none⟩ = false → X.frozen? ⟨b, 1, none⟩ = false → b < X.heap.size → P) : P := by
  have hx := h.bl hb
  obtain ⟨h1, h2, h3, h4, h5⟩ := hx
  exact k (Lib.hid (h.bl hb)) h1 h2 h3 h4 h5
theorem csHave {P : Prop} {W X : World} {b : Nat} {cs : List Value} (h : Cs b cs W) (hb : Below W.heap.size W X) (k : Hid (Cs b cs X) → P) : P := k (Lib.hid (h.bl hb))
theorem blAl {A W : World} (h : Below A.heap.size A W) (ob : Obj) : Below A.heap.size A (W.alloc ob) := h.alloc h.size ob
theorem blDr {A W : World} (h : Below A.heap.size A W) : Below A.heap.size A W.drew := ⟨h.os, h.tape, h.output, h.size, h.block⟩
theorem blHave {P : Prop} {A W X : World} (h : Below A.heap.size A W) (hb : Below W.heap.size W X) (k : Hid (Below A.heap.size A X) → P) : P := k (Lib.hid (h.trans (hb.mono h.size)))
theorem sgAl {W : World} {g : Sg} {a : Option Addr} {c : Nat} (h : IsSg W.heap.size W g a c) (ob : Obj) : IsSg (W.alloc ob).heap.size (W.alloc ob) g a c :=
  (h.below ((Below.refl _ _).alloc (Nat.le_refl _) _)).mono (by simp)
theorem sgDr {W : World} {g : Sg} {a : Option Addr} {c : Nat} (h : IsSg W.heap.size W g a c) : IsSg W.drew.heap.size W.drew g a c := h.below (blDr (Below.refl _ _))
theorem sgHave {P : Prop} {W X : World} {g : Sg} {a : Option Addr} {c : Nat} (h : IsSg W.heap.size W g a c) (hb : Below W.heap.size W X) (k : Hid (IsSg X.heap.size X g a c) → P) : P := k (Lib.hid ((h.below hb).mono hb.size))
theorem isAl {W : World} {z : List Int} {a : Option Addr} {c : Nat} (h : IsIs W.heap.size W z a c) (ob : Obj) : IsIs (W.alloc ob).heap.size (W.alloc ob) z a c :=
  (h.below ((Below.refl _ _).alloc (Nat.le_refl _) _)).mono (by simp)
theorem isDr {W : World} {z : List Int} {a : Option Addr} {c : Nat} (h : IsIs W.heap.size W z a c) : IsIs W.drew.heap.size W.drew z a c := h.below (blDr (Below.refl _ _))
theorem bl_of_drew {W u : World} (h : Below W.drew.heap.size W.drew u) : Below W.heap.size W u := ⟨h.os, h.tape, h.output, h.size, h.block⟩

end Go.Proofs.YtbdabdjpgmnejaaGreat

/- Reading terms out of memory; and how the walk of a law becomes its row. -/
namespace Go.Proofs.YtbdabdjpgmnejaaGreat
set_option linter.unusedVariables false
set_option linter.unusedSimpArgs false
set_option maxRecDepth 100000
open Go.ChangeShapes Go.WideShapes Go.ChangeAt Go.RowKit Go.Joins

theorem own : ownKnob Tryz.prog.godebug = none := by kernel_rfl
theorem laid : laidOutB Tryz.prog = true := by kernel_rfl
theorem cellsTerm : Tryz.prog.cellsOf 34 = 2 := by kernel_rfl
theorem cellsInt : Tryz.prog.cellsOf 3 = 1 := by kernel_rfl
theorem cellsTerms : Tryz.prog.cellsOf 32 = 1 := by kernel_rfl

/-! ### From the walk to the row -/
section
variable {H : Type} {enc : TypeId × Value → H} {P : Program}

/-- Arguments that lie below the old end of the heap read as they did. -/
theorem trodAll_later (hl : laidOutB P = true) {W W' : World} (hb : Below W.heap.size W W') : ∀ {ts : List TypeId} {vs : List Value} {ds : List (DataW H)} {ps : List MemPlace},
    (∀ t ∈ ts, P.readableRec t = true ∧ t < P.types.size) → (∀ x ∈ ps, x.block < W.heap.size) → DataW.TrodAll enc P W 0 (fun _ => true) true ts vs ds ps → DataW.TrodAll enc P W' 0 (fun b => decide (b < W.heap.size)) true ts vs ds ps
  | [], [], [], _, _, _, h => h
  | t :: _, _ :: _, _ :: _, _, ht, hlt, ⟨p, q, h1, h2, e⟩ => by
    obtain ⟨r1, r2⟩ := ht t (List.mem_cons.2 (Or.inl rfl))
    exact ⟨p, q, Below.trod hl r1 r2 h1 hb (fun x hx => hlt x (by rw [e]; exact List.mem_append_left _ hx)),
      trodAll_later hl hb (fun t ht' => ht t (List.mem_cons.2 (Or.inr ht'))) (fun x hx => hlt x (by rw [e]; exact List.mem_append_right _ hx)) h2, e⟩

/-- A law that returns true, and under which the old memory stays: what its row asks behind the call. -/
theorem post_law (hl : laidOutB P = true) {f : Func} {s : ChangeSpec} {W W' : World} {args : Array Value} {ds gs : List (DataW H)} {before : List MemPlace} {tb : TypeId} {apart fresh handsOn : Bool}
    (hu : P.underlying tb = some .bool) (hr : f.resultTypes = #[tb]) (hv : s.vars = [])
    (hp : ∀ t ∈ f.params.toList, P.readableRec t = true ∧ t < P.types.size)
    (hfn : ∀ gs : List (DataW H), gs = [] → s.fn H (ds ++ gs) = { results := [.lit (.bool true)], args := ds })
    (hW : DataW.Whole enc P f.params.toList s.vars apart W args.toList ds gs before) (hb : Below W.heap.size W W') :
    s.post enc P f apart fresh handsOn false W args (.bool true) W' := by
  have hW' := hW
  obtain ⟨p, q, hA, hV, rfl, _, _⟩ := hW
  rw [hv] at hV
  obtain ⟨rfl, rfl⟩ := trodVars_none hV
  have e := hfn [] rfl
  refine ⟨ds, [], p ++ [], [], p, [], hW', ?_, ?_, ?_, hb.frame _, fun h => by cases h⟩
  · rw [e, hr]
    exact trodAll_cons_mk (p := []) (p' := []) (shut_bool hu true) trodAll_mk0
  · rw [e]
    exact trodAll_later hl hb hp (fun x hx => by simpa using hW'.lt x (List.mem_append_left _ hx)) hA
  · rw [e, hv]; rfl
end

/-! ### A term that reads as data lies in memory as a term -/
theorem isRow_of {n₀ : Nat} {w : World} {b : Nat} : ∀ (n : Nat) (o : Nat), (∀ i, i < n → ∃ t, IsT n₀ w t b (o + i * 2)) → ∃ ts : List T, ts.length = n ∧ IsRow n₀ w ts b o := by
  intro n
  induction n with
  | zero => intro o _; exact ⟨[], rfl, trivial⟩
  | succ n ih =>
    intro o h
    obtain ⟨t, ht⟩ := h 0 (by omega)
    obtain ⟨ts, hl, hr⟩ := ih (o + 2) (fun i hi => by
      obtain ⟨s, hs⟩ := h (i + 1) (by omega)
      exact ⟨s, by rw [show o + 2 + i * 2 = o + (i + 1) * 2 from by omega]; exact hs⟩)
    exact ⟨t :: ts, by simp [hl], by simp only [IsRow]; exact ⟨by simpa using ht, hr⟩⟩

theorem add_none (b o k : Nat) : (⟨b, o, none⟩ : Addr).add k = ⟨b, o + k, none⟩ := by
  unfold Addr.add; split <;> simp_all

theorem lt_of_cell {w : World} {b o : Nat} {v : Value} (h : w.cell? ⟨b, o, none⟩ = some v) : b < w.heap.size := by
  unfold World.cell? at h
  cases hh : w.heap[b]? with
  | none => simp [hh] at h
  | some x => exact (Array.getElem?_eq_some_iff.1 hh).1

section
variable {H : Type} {enc : TypeId × Value → H} {w : World} {sp : Nat → Bool} {hd : Bool}

theorem trod_terms : ∀ (n : Nat),
    (∀ {cs : List Value} {x : DataW H × List MemPlace}, DataW.trod enc Tryz.prog w 0 sp hd n 34 cs = some x → ∃ (t : T) (a : Option Addr) (c : Nat), cs = [.int .i64 t.head, .slice a t.args.length c] ∧ (Lit.int .i64 t.head).wf = true ∧ IsArgs w.heap.size w t.args a c) ∧
    (∀ {cs : List Value} {x : DataW H × List MemPlace}, DataW.trod enc Tryz.prog w 0 sp hd n 32 cs = some x → ∃ (ts : List T) (a : Option Addr) (c : Nat), cs = [.slice a ts.length c] ∧ IsArgs w.heap.size w ts a c) := by
  intro n
  induction n with
  | zero => exact ⟨fun h => by simp [DataW.trod] at h, fun h => by simp [DataW.trod] at h⟩
  | succ n ih =>
    obtain ⟨ih1, ih2⟩ := ih
    constructor
    · intro cs x h
      obtain ⟨xs, m, hm, _, hl, hxs, hf⟩ := DataW.trod_struct Tryz.underlying34 h
      obtain rfl : n = m := by omega
      rw [cellsTerm] at hl
      match cs, hl with
      | [c0, c1], _ =>
        match xs, hxs with
        | [y0, y1], _ =>
          have h0 := hf 0 _ rfl
          have h1 := hf 1 _ rfl
          simp [cellsInt, cellsTerms] at h0 h1
          obtain ⟨k, e0, _, wf⟩ := DataW.trod_int Tryz.underlying3 h0
          obtain ⟨ts, a, c, e1, hA⟩ := ih2 h1
          simp at e0 e1
          subst e0 e1
          exact ⟨.node k ts, a, c, rfl, wf, hA⟩
    · intro cs x h
      rcases DataW.trod_slice Tryz.underlying32 h with ⟨rfl, _⟩ | ⟨a, len, cap, elems, rest, m, hm, rfl, _, _, hlc, hcm, hel, hcell, _, _⟩
      · exact ⟨[], none, 0, rfl, ⟨Nat.le_refl _, by simp [maxLen], .inl rfl⟩⟩
      · obtain rfl : n = m := by omega
        cases len with
        | zero => exact ⟨[], some a, cap, rfl, ⟨hlc, hcm, .inl rfl⟩⟩
        | succ len =>
          have each : ∀ i, i < len + 1 → ∃ (t : T) (a' : Option Addr) (c : Nat), w.cell? ((a.add (i * 2)).add 0) = some (.int .i64 t.head) ∧ w.cell? ((a.add (i * 2)).add 1) = some (.slice a' t.args.length c) ∧ (Lit.int .i64 t.head).wf = true ∧ IsArgs w.heap.size w t.args a' c := by
            intro i hi
            have h1 := hcell i hi
            rw [List.getElem?_eq_getElem (by omega), cellsTerm, Option.bind_eq_some_iff] at h1
            obtain ⟨cs, hcs, ht⟩ := h1
            obtain ⟨t, a', c, rfl, wf, hA⟩ := ih1 ht
            refine ⟨t, a', c, ?_, ?_, wf, hA⟩
            · exact mapM_some_get (by simpa [World.cells?] using hcs) 0 0 rfl
            · exact mapM_some_get (by simpa [World.cells?] using hcs) 1 1 rfl
          obtain ⟨b, o, spot⟩ := a
          have hspot : spot = none := by
            obtain ⟨t, a', c, h1, _⟩ := each 0 (by omega)
            cases spot with
            | none => rfl
            | some k => unfold World.cell? at h1; simp [Addr.add] at h1; split at h1 <;> simp at h1
          subst hspot
          simp only [add_none, Nat.add_zero] at each
          have hlt : b < w.heap.size := by
            obtain ⟨t, a', c, h1, _⟩ := each 0 (by omega)
            exact lt_of_cell h1
          obtain ⟨ts, hts, hrow⟩ := isRow_of (n₀ := w.heap.size) (w := w) (b := b) (len + 1) o (fun i hi => by
            obtain ⟨t, a', c, h1, h2, wf, hA⟩ := each i hi
            exact ⟨t, isT_iff.2 ⟨wf, h1, a', c, h2, hA⟩⟩)
          exact ⟨ts, some ⟨b, o, none⟩, cap, by rw [hts], ⟨by omega, hcm, .inr ⟨b, o, rfl, hlt, hrow⟩⟩⟩

/-- An argument of type Term. -/
theorem open_term {r : Reach} {b0 : Nat} {v : Value} {d : DataW H} {p : List MemPlace} (hv : Value.okWide Tryz.prog w r b0 34 v) (h : DataW.Trod enc Tryz.prog w 0 sp hd 34 v d p) :
    ∃ (t : T) (a : Option Addr) (c : Nat), v = tm t.head a t.args.length c ∧ (Lit.int .i64 t.head).wf = true ∧ IsArgs w.heap.size w t.args a c := by
  obtain ⟨cs, rfl, _⟩ := okWide_struct Tryz.underlying34 hv
  obtain ⟨n, hn⟩ := h
  obtain ⟨t, a, c, e, wf, hA⟩ := (trod_terms n).1 hn
  refine ⟨t, a, c, ?_, wf, hA⟩
  obtain ⟨l⟩ := cs
  simp only [Value.cells] at e
  simp only [tm]
  rw [show l = _ from e]

/-- An argument of type []Term. -/
theorem open_terms {r : Reach} {b0 : Nat} {v : Value} {d : DataW H} {p : List MemPlace} (hv : Value.okWide Tryz.prog w r b0 32 v) (h : DataW.Trod enc Tryz.prog w 0 sp hd 32 v d p) :
    ∃ (ts : List T) (a : Option Addr) (c : Nat), v = .slice a ts.length c ∧ IsArgs w.heap.size w ts a c := by
  obtain ⟨a, len, cap, rfl⟩ := okWide_slice Tryz.underlying32 hv
  obtain ⟨n, hn⟩ := h
  obtain ⟨ts, a', c, e, hA⟩ := (trod_terms n).2 hn
  simp [Value.cells] at e
  obtain ⟨rfl, rfl, rfl⟩ := e
  exact ⟨ts, a, cap, rfl, hA⟩
end

end Go.Proofs.YtbdabdjpgmnejaaGreat

/- Reading signatures out of memory. -/
namespace Go.Proofs.YtbdabdjpgmnejaaGreat
set_option linter.unusedVariables false
set_option linter.unusedSimpArgs false
set_option maxRecDepth 100000
open Go.ChangeShapes Go.WideShapes Go.ChangeAt Go.RowKit Go.Joins

theorem cellsSym : Tryz.prog.cellsOf 71 = 4 := by kernel_rfl
theorem cellsStr : Tryz.prog.cellsOf 9 = 1 := by kernel_rfl
theorem cellsBool : Tryz.prog.cellsOf 4 = 1 := by kernel_rfl

section
variable {H : Type} {enc : TypeId × Value → H} {w : World} {sp : Nat → Bool} {hd : Bool}

theorem trod_sym {n : Nat} {cs : List Value} {x : DataW H × List MemPlace} (h : DataW.trod enc Tryz.prog w 0 sp hd n 71 cs = some x) :
    ∃ y : Sy, cs = y.cells ∧ y.wf := by
  obtain ⟨xs, m, hm, _, hl, hxs, hf⟩ := DataW.trod_struct Tryz.underlying71 h
  rw [cellsSym] at hl
  match cs, hl with
  | [c0, c1, c2, c3], _ =>
    match xs, hxs with
    | [y0, y1, y2, y3], _ =>
      have h0 := hf 0 _ rfl
      have h1 := hf 1 _ rfl
      have h2 := hf 2 _ rfl
      have h3 := hf 3 _ rfl
      simp [cellsInt, cellsStr, cellsBool] at h0 h1 h2 h3
      obtain ⟨s, e0, _, ws⟩ := DataW.trod_string Tryz.underlying9 h0
      obtain ⟨k, e1, _, wf1⟩ := DataW.trod_int Tryz.underlying3 h1
      obtain ⟨d, e2, _, wf2⟩ := DataW.trod_int Tryz.underlying3 h2
      obtain ⟨t, e3, _⟩ := DataW.trod_bool Tryz.underlying4 h3
      simp at e0 e1 e2 e3
      subst e0
      subst e1
      subst e2
      subst e3
      exact ⟨⟨s, k, d, t⟩, rfl, ws, wf1, wf2⟩

theorem trod_syms {n : Nat} {cs : List Value} {x : DataW H × List MemPlace} (h : DataW.trod enc Tryz.prog w 0 sp hd n 22 cs = some x) : ∃ (g : Sg) (a : Option Addr) (c : Nat), cs = [.slice a g.length c] ∧ IsSg w.heap.size w g a c := by
  rcases DataW.trod_slice Tryz.underlying22 h with ⟨rfl, _⟩ | ⟨a, len, cap, elems, rest, m, hm, rfl, _, _, hlc, hcm, hel, hcell, _, _⟩
  · exact ⟨[], none, 0, rfl, ⟨Nat.le_refl _, by simp [maxLen], .inl rfl⟩⟩
  · cases len with
    | zero => exact ⟨[], some a, cap, rfl, ⟨hlc, hcm, .inl rfl⟩⟩
    | succ len =>
      have each : ∀ i, i < len + 1 → ∃ y : Sy, y.wf ∧ w.cell? ((a.add (i * 4)).add 0) = some (.string y.name) ∧ w.cell? ((a.add (i * 4)).add 1) = some (.int .i64 y.ar) ∧ w.cell? ((a.add (i * 4)).add 2) = some (.int .i64 y.wt) ∧ w.cell? ((a.add (i * 4)).add 3) = some (.bool y.tr) := by
        intro i hi
        have h1 := hcell i hi
        rw [List.getElem?_eq_getElem (by omega), cellsSym, Option.bind_eq_some_iff] at h1
        obtain ⟨cs, hcs, ht⟩ := h1
        obtain ⟨y, rfl, wf⟩ := trod_sym ht
        refine ⟨y, wf, ?_, ?_, ?_, ?_⟩
        · exact mapM_some_get (by simpa [World.cells?] using hcs) 0 0 rfl
        · exact mapM_some_get (by simpa [World.cells?] using hcs) 1 1 rfl
        · exact mapM_some_get (by simpa [World.cells?] using hcs) 2 2 rfl
        · exact mapM_some_get (by simpa [World.cells?] using hcs) 3 3 rfl
      obtain ⟨b, o, spot⟩ := a
      have hspot : spot = none := by
        obtain ⟨y, _, h1, _⟩ := each 0 (by omega)
        cases spot with
        | none => rfl
        | some k => unfold World.cell? at h1; simp [Addr.add] at h1; split at h1 <;> simp at h1
      subst hspot
      simp only [add_none, Nat.add_zero] at each
      have hlt : b < w.heap.size := by
        obtain ⟨y, _, h1, _⟩ := each 0 (by omega)
        exact lt_of_cell h1
      have hall : ∀ (n o : Nat), (∀ i, i < n → ∃ y : Sy, IsSy w y b (o + i * 4)) → ∃ g : Sg, g.length = n ∧ ∀ (j : Nat) (y : Sy), g[j]? = some y → IsSy w y b (o + j * 4) := by
        intro n
        induction n with
        | zero => intro o _; exact ⟨[], rfl, by simp⟩
        | succ n ih =>
          intro o h
          obtain ⟨z, hz⟩ := h 0 (by omega)
          obtain ⟨zs, hl, hr⟩ := ih (o + 4) (fun i hi => by
            obtain ⟨y, hy⟩ := h (i + 1) (by omega)
            exact ⟨y, by rw [show o + 4 + i * 4 = o + (i + 1) * 4 from by omega]; exact hy⟩)
          refine ⟨z :: zs, by simp [hl], fun j y hj => ?_⟩
          cases j with
          | zero => simp at hj; subst hj; simpa using hz
          | succ j => rw [show o + (j + 1) * 4 = o + 4 + j * 4 from by omega]; exact hr j y (by simpa using hj)
      obtain ⟨g, hl, hr⟩ := hall (len + 1) o each
      exact ⟨g, some ⟨b, o, none⟩, cap, by rw [hl], ⟨by omega, hcm, .inr ⟨b, o, rfl, hlt, hr⟩⟩⟩

/-- An argument of type []Sym. -/
theorem open_sg {r : Reach} {b0 : Nat} {v : Value} {d : DataW H} {p : List MemPlace} (hv : Value.okWide Tryz.prog w r b0 22 v) (h : DataW.Trod enc Tryz.prog w 0 sp hd 22 v d p) :
    ∃ (g : Sg) (a : Option Addr) (c : Nat), v = .slice a g.length c ∧ IsSg w.heap.size w g a c := by
  obtain ⟨a, len, cap, rfl⟩ := okWide_slice Tryz.underlying22 hv
  obtain ⟨n, hn⟩ := h
  obtain ⟨g, a', c, e, hA⟩ := trod_syms hn
  simp [Value.cells] at e
  obtain ⟨rfl, rfl, rfl⟩ := e
  exact ⟨g, a, cap, rfl, hA⟩
end

end Go.Proofs.YtbdabdjpgmnejaaGreat
