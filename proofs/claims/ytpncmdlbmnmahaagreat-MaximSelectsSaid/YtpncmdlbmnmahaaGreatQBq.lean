/- QBq: joined of Law, Law7, Law9, Law10, RCk, R7. -/
import Derived.Test.YtpncmdlbmnmahaaGreatQBb
import Derived.Test.YtpncmdlbmnmahaaGreatRows
import Derived.ProofKit
import Derived.OpenShut
import Derived.Carry
import Derived.Lib.SmallJoins
import Derived.Test.YtpncmdlbmnmahaaGreatQBc
import Derived.ChangeMaps5
import Derived.Test.YtpncmdlbmnmahaaGreatQBm
import Derived.Test.YtpncmdlbmnmahaaGreatQBp
import Derived.Test.YtpncmdlbmnmahaaGreatQBd
import Derived.Test.YtpncmdlbmnmahaaGreatQBg
import Derived.Test.YtpncmdlbmnmahaaGreatQBe
import Derived.Test.YtpncmdlbmnmahaaGreatQBf
import Derived.Lib.QuietBelow
import Derived.BigQuiet
/- Reading terms out of memory; and how the walk of a law becomes its row. -/
namespace Go.Proofs.YtpncmdlbmnmahaaGreat
set_option linter.unusedVariables false
set_option linter.unusedSimpArgs false
set_option maxRecDepth 100000
open Go.ChangeShapes Go.WideShapes Go.ChangeAt Go.RowKit Go.Joins
theorem own : ownKnob Tryz.prog.godebug = none := by kernel_rfl
theorem laid : laidOutB Tryz.prog = true := by kernel_rfl
theorem cellsTerm : Tryz.prog.cellsOf 42 = 2 := by kernel_rfl
theorem cellsInt : Tryz.prog.cellsOf 3 = 1 := by kernel_rfl
theorem cellsTerms : Tryz.prog.cellsOf 40 = 1 := by kernel_rfl
/-! ### From the walk to the row -/
section
variable {H : Type} {enc : TypeId × Value → H} {P : Program}
/-- Arguments that lie below the old end of the heap read as they did. -/
theorem trodAll_later (hl : laidOutB P = true) {W W' : World} (hb : Below W.heap.size W W') : ∀ {ts : List TypeId} {vs : List Value} {ds : List (DataW H)} {ps : List MemPlace},
    (∀ t ∈ ts, P.readableRec t = true ∧ t < P.types.size) → (∀ x ∈ ps, x.block < W.heap.size) → DataW.TrodAll enc P W 0 (fun _ => true) true ts vs ds ps → DataW.TrodAll enc P W' 0 (fun b => decide (b < W.heap.size)) true ts vs ds ps
  | [], [], [], _, _, _, h => h
  | t :: _, _ :: _, _ :: _, _, ht, hlt, ⟨p, q, h1, h2, e⟩ => by
    obtain ⟨r1, r2⟩ := ht t (List.mem_cons.2 (Or.inl rfl))
    exact ⟨p, q, Below.trod hl r1 r2 h1 hb (fun x hx => hlt x (by rw [e]; exact List.mem_append_left _ hx)),
      trodAll_later hl hb (fun t ht' => ht t (List.mem_cons.2 (Or.inr ht'))) (fun x hx => hlt x (by rw [e]; exact List.mem_append_right _ hx)) h2, e⟩
/-- A law that returns true, and under which the old memory stays: what its row asks behind the call. -/
theorem post_law (hl : laidOutB P = true) {f : Func} {s : ChangeSpec} {W W' : World} {args : Array Value} {ds gs : List (DataW H)} {before : List MemPlace} {tb : TypeId} {apart fresh handsOn : Bool}
    (hu : P.underlying tb = some .bool) (hr : f.resultTypes = #[tb]) (hv : s.vars = [])
    (hp : ∀ t ∈ f.params.toList, P.readableRec t = true ∧ t < P.types.size)
    (hfn : ∀ gs : List (DataW H), gs = [] → s.fn H (ds ++ gs) = { results := [.lit (.bool true)], args := ds })
    (hW : DataW.Whole enc P f.params.toList s.vars apart W args.toList ds gs before) (hb : Below W.heap.size W W') :
    s.post enc P f apart fresh handsOn false W args (.bool true) W' := by
  have hW' := hW
  obtain ⟨p, q, hA, hV, rfl, _, _⟩ := hW
  rw [hv] at hV
  obtain ⟨rfl, rfl⟩ := trodVars_none hV
  have e := hfn [] rfl
  refine ⟨ds, [], p ++ [], [], p, [], hW', ?_, ?_, ?_, hb.frame _, fun h => by cases h⟩
  · rw [e, hr]
    exact trodAll_cons_mk (p := []) (p' := []) (shut_bool hu true) trodAll_mk0
  · rw [e]
    exact trodAll_later hl hb hp (fun x hx => by simpa using hW'.lt x (List.mem_append_left _ hx)) hA
  · rw [e, hv]; rfl
end
/-! ### A term that reads as data lies in memory as a term -/
theorem isRow_of {n₀ : Nat} {w : World} {b : Nat} : ∀ (n : Nat) (o : Nat), (∀ i, i < n → ∃ t, IsT n₀ w t b (o + i * 2)) → ∃ ts : List T, ts.length = n ∧ IsRow n₀ w ts b o := by
  intro n
  induction n with
  | zero => intro o _; exact ⟨[], rfl, trivial⟩
  | succ n ih =>
    intro o h
    obtain ⟨t, ht⟩ := h 0 (by omega)
    obtain ⟨ts, hl, hr⟩ := ih (o + 2) (fun i hi => by
      obtain ⟨s, hs⟩ := h (i + 1) (by omega)
      exact ⟨s, by rw [show o + 2 + i * 2 = o + (i + 1) * 2 from by omega]; exact hs⟩)
    exact ⟨t :: ts, by simp [hl], by simp only [IsRow]; exact ⟨by simpa using ht, hr⟩⟩
theorem add_none (b o k : Nat) : (⟨b, o, none⟩ : Addr).add k = ⟨b, o + k, none⟩ := by
  unfold Addr.add; split <;> simp_all
theorem lt_of_cell {w : World} {b o : Nat} {v : Value} (h : w.cell? ⟨b, o, none⟩ = some v) : b < w.heap.size := by
  unfold World.cell? at h
  cases hh : w.heap[b]? with
  | none => simp [hh] at h
  | some x => exact (Array.getElem?_eq_some_iff.1 hh).1
section
variable {H : Type} {enc : TypeId × Value → H} {w : World} {sp : Nat → Bool} {hd : Bool}
theorem trod_terms : ∀ (n : Nat),
    (∀ {cs : List Value} {x : DataW H × List MemPlace}, DataW.trod enc Tryz.prog w 0 sp hd n 42 cs = some x → ∃ (t : T) (a : Option Addr) (c : Nat), cs = [.int .i64 t.head, .slice a t.args.length c] ∧ (Lit.int .i64 t.head).wf = true ∧ IsArgs w.heap.size w t.args a c) ∧
    (∀ {cs : List Value} {x : DataW H × List MemPlace}, DataW.trod enc Tryz.prog w 0 sp hd n 40 cs = some x → ∃ (ts : List T) (a : Option Addr) (c : Nat), cs = [.slice a ts.length c] ∧ IsArgs w.heap.size w ts a c) := by
  intro n
  induction n with
  | zero => exact ⟨fun h => by simp [DataW.trod] at h, fun h => by simp [DataW.trod] at h⟩
  | succ n ih =>
    obtain ⟨ih1, ih2⟩ := ih
    constructor
    · intro cs x h
      obtain ⟨xs, m, hm, _, hl, hxs, hf⟩ := DataW.trod_struct Tryz.underlying42 h
      obtain rfl : n = m := by omega
      rw [cellsTerm] at hl
      match cs, hl with
      | [c0, c1], _ =>
        match xs, hxs with
        | [y0, y1], _ =>
          have h0 := hf 0 _ rfl
          have h1 := hf 1 _ rfl
          simp [cellsInt, cellsTerms] at h0 h1
          obtain ⟨k, e0, _, wf⟩ := DataW.trod_int Tryz.underlying3 h0
          obtain ⟨ts, a, c, e1, hA⟩ := ih2 h1
          simp at e0 e1
          subst e0 e1
          exact ⟨.node k ts, a, c, rfl, wf, hA⟩
    · intro cs x h
      rcases DataW.trod_slice Tryz.underlying40 h with ⟨rfl, _⟩ | ⟨a, len, cap, elems, rest, m, hm, rfl, _, _, hlc, hcm, hel, hcell, _, _⟩
      · exact ⟨[], none, 0, rfl, ⟨Nat.le_refl _, by simp [maxLen], .inl rfl⟩⟩
      · obtain rfl : n = m := by omega
        cases len with
        | zero => exact ⟨[], some a, cap, rfl, ⟨hlc, hcm, .inl rfl⟩⟩
        | succ len =>
          have each : ∀ i, i < len + 1 → ∃ (t : T) (a' : Option Addr) (c : Nat), w.cell? ((a.add (i * 2)).add 0) = some (.int .i64 t.head) ∧ w.cell? ((a.add (i * 2)).add 1) = some (.slice a' t.args.length c) ∧ (Lit.int .i64 t.head).wf = true ∧ IsArgs w.heap.size w t.args a' c := by
            intro i hi
            have h1 := hcell i hi
            rw [List.getElem?_eq_getElem (by omega), cellsTerm, Option.bind_eq_some_iff] at h1
            obtain ⟨cs, hcs, ht⟩ := h1
            obtain ⟨t, a', c, rfl, wf, hA⟩ := ih1 ht
            refine ⟨t, a', c, ?_, ?_, wf, hA⟩
            · exact mapM_some_get (by simpa [World.cells?] using hcs) 0 0 rfl
            · exact mapM_some_get (by simpa [World.cells?] using hcs) 1 1 rfl
          obtain ⟨b, o, spot⟩ := a
          have hspot : spot = none := by
            obtain ⟨t, a', c, h1, _⟩ := each 0 (by omega)
            cases spot with
            | none => rfl
            | some k => unfold World.cell? at h1; simp [Addr.add] at h1; split at h1 <;> simp at h1
          subst hspot
          simp only [add_none, Nat.add_zero] at each
          have hlt : b < w.heap.size := by
            obtain ⟨t, a', c, h1, _⟩ := each 0 (by omega)
            exact lt_of_cell h1
          obtain ⟨ts, hts, hrow⟩ := isRow_of (n₀ := w.heap.size) (w := w) (b := b) (len + 1) o (fun i hi => by
            obtain ⟨t, a', c, h1, h2, wf, hA⟩ := each i hi
            exact ⟨t, isT_iff.2 ⟨wf, h1, a', c, h2, hA⟩⟩)
          exact ⟨ts, some ⟨b, o, none⟩, cap, by rw [hts], ⟨by omega, hcm, .inr ⟨b, o, rfl, hlt, hrow⟩⟩⟩
end
end Go.Proofs.YtpncmdlbmnmahaaGreat

/- Reading signatures out of memory. -/
namespace Go.Proofs.YtpncmdlbmnmahaaGreat
set_option linter.unusedVariables false
set_option linter.unusedSimpArgs false
set_option maxRecDepth 100000
open Go.ChangeShapes Go.WideShapes Go.ChangeAt Go.RowKit Go.Joins
theorem cellsSym : Tryz.prog.cellsOf 72 = 4 := by kernel_rfl
theorem cellsStr : Tryz.prog.cellsOf 9 = 1 := by kernel_rfl
theorem cellsBool : Tryz.prog.cellsOf 4 = 1 := by kernel_rfl
section
variable {H : Type} {enc : TypeId × Value → H} {w : World} {sp : Nat → Bool} {hd : Bool}
theorem trod_sym {n : Nat} {cs : List Value} {x : DataW H × List MemPlace} (h : DataW.trod enc Tryz.prog w 0 sp hd n 72 cs = some x) :
    ∃ y : Sy, cs = y.cells ∧ y.wf := by
  obtain ⟨xs, m, hm, _, hl, hxs, hf⟩ := DataW.trod_struct Tryz.underlying72 h
  rw [cellsSym] at hl
  match cs, hl with
  | [c0, c1, c2, c3], _ =>
    match xs, hxs with
    | [y0, y1, y2, y3], _ =>
      have h0 := hf 0 _ rfl
      have h1 := hf 1 _ rfl
      have h2 := hf 2 _ rfl
      have h3 := hf 3 _ rfl
      simp [cellsInt, cellsStr, cellsBool] at h0 h1 h2 h3
      obtain ⟨s, e0, _, ws⟩ := DataW.trod_string Tryz.underlying9 h0
      obtain ⟨k, e1, _, wf1⟩ := DataW.trod_int Tryz.underlying3 h1
      obtain ⟨d, e2, _, wf2⟩ := DataW.trod_int Tryz.underlying3 h2
      obtain ⟨t, e3, _⟩ := DataW.trod_bool Tryz.underlying4 h3
      simp at e0 e1 e2 e3
      subst e0
      subst e1
      subst e2
      subst e3
      exact ⟨⟨s, k, d, t⟩, rfl, ws, wf1, wf2⟩
theorem trod_syms {n : Nat} {cs : List Value} {x : DataW H × List MemPlace} (h : DataW.trod enc Tryz.prog w 0 sp hd n 22 cs = some x) : ∃ (g : Sg) (a : Option Addr) (c : Nat), cs = [.slice a g.length c] ∧ IsSg w.heap.size w g a c := by
  rcases DataW.trod_slice Tryz.underlying22 h with ⟨rfl, _⟩ | ⟨a, len, cap, elems, rest, m, hm, rfl, _, _, hlc, hcm, hel, hcell, _, _⟩
  · exact ⟨[], none, 0, rfl, ⟨Nat.le_refl _, by simp [maxLen], .inl rfl⟩⟩
  · cases len with
    | zero => exact ⟨[], some a, cap, rfl, ⟨hlc, hcm, .inl rfl⟩⟩
    | succ len =>
      have each : ∀ i, i < len + 1 → ∃ y : Sy, y.wf ∧ w.cell? ((a.add (i * 4)).add 0) = some (.string y.name) ∧ w.cell? ((a.add (i * 4)).add 1) = some (.int .i64 y.ar) ∧ w.cell? ((a.add (i * 4)).add 2) = some (.int .i64 y.wt) ∧ w.cell? ((a.add (i * 4)).add 3) = some (.bool y.tr) := by
        intro i hi
        have h1 := hcell i hi
        rw [List.getElem?_eq_getElem (by omega), cellsSym, Option.bind_eq_some_iff] at h1
        obtain ⟨cs, hcs, ht⟩ := h1
        obtain ⟨y, rfl, wf⟩ := trod_sym ht
        refine ⟨y, wf, ?_, ?_, ?_, ?_⟩
        · exact mapM_some_get (by simpa [World.cells?] using hcs) 0 0 rfl
        · exact mapM_some_get (by simpa [World.cells?] using hcs) 1 1 rfl
        · exact mapM_some_get (by simpa [World.cells?] using hcs) 2 2 rfl
        · exact mapM_some_get (by simpa [World.cells?] using hcs) 3 3 rfl
      obtain ⟨b, o, spot⟩ := a
      have hspot : spot = none := by
        obtain ⟨y, _, h1, _⟩ := each 0 (by omega)
        cases spot with
        | none => rfl
        | some k => unfold World.cell? at h1; simp [Addr.add] at h1; split at h1 <;> simp at h1
      subst hspot
      simp only [add_none, Nat.add_zero] at each
      have hlt : b < w.heap.size := by
        obtain ⟨y, _, h1, _⟩ := each 0 (by omega)
        exact lt_of_cell h1
      have hall : ∀ (n o : Nat), (∀ i, i < n → ∃ y : Sy, IsSy w y b (o + i * 4)) → ∃ g : Sg, g.length = n ∧ ∀ (j : Nat) (y : Sy), g[j]? = some y → IsSy w y b (o + j * 4) := by
        intro n
        induction n with
        | zero => intro o _; exact ⟨[], rfl, by simp⟩
        | succ n ih =>
          intro o h
          obtain ⟨z, hz⟩ := h 0 (by omega)
          obtain ⟨zs, hl, hr⟩ := ih (o + 4) (fun i hi => by
            obtain ⟨y, hy⟩ := h (i + 1) (by omega)
            exact ⟨y, by rw [show o + 4 + i * 4 = o + (i + 1) * 4 from by omega]; exact hy⟩)
          refine ⟨z :: zs, by simp [hl], fun j y hj => ?_⟩
          cases j with
          | zero => simp at hj; subst hj; simpa using hz
          | succ j => rw [show o + (j + 1) * 4 = o + 4 + j * 4 from by omega]; exact hr j y (by simpa using hj)
      obtain ⟨g, hl, hr⟩ := hall (len + 1) o each
      exact ⟨g, some ⟨b, o, none⟩, cap, by rw [hl], ⟨by omega, hcm, .inr ⟨b, o, rfl, hlt, hr⟩⟩⟩
/-- An argument of type []Sym. -/
theorem open_sg {r : Reach} {b0 : Nat} {v : Value} {d : DataW H} {p : List MemPlace} (hv : Value.okWide Tryz.prog w r b0 22 v) (h : DataW.Trod enc Tryz.prog w 0 sp hd 22 v d p) :
    ∃ (g : Sg) (a : Option Addr) (c : Nat), v = .slice a g.length c ∧ IsSg w.heap.size w g a c := by
  obtain ⟨a, len, cap, rfl⟩ := okWide_slice Tryz.underlying22 hv
  obtain ⟨n, hn⟩ := h
  obtain ⟨g, a', c, e, hA⟩ := trod_syms hn
  simp [Value.cells] at e
  obtain ⟨rfl, rfl, rfl⟩ := e
  exact ⟨g, a, cap, rfl, hA⟩
end
end Go.Proofs.YtpncmdlbmnmahaaGreat

/- Reading literals out of memory. -/
namespace Go.Proofs.YtpncmdlbmnmahaaGreat
set_option linter.unusedVariables false
set_option linter.unusedSimpArgs false
set_option maxRecDepth 100000
open Go.ChangeShapes Go.WideShapes Go.ChangeAt Go.RowKit Go.Joins
theorem cellsLit : Tryz.prog.cellsOf 44 = 5 := by kernel_rfl
section
variable {H : Type} {enc : TypeId × Value → H} {w : World} {sp : Nat → Bool} {hd : Bool}
theorem trod_lit {n : Nat} {cs : List Value} {x : DataW H × List MemPlace} (h : DataW.trod enc Tryz.prog w 0 sp hd n 44 cs = some x) :
    ∃ y : LV, cs = [.bool y.n, .int .i64 y.l.head, .slice y.pa y.l.args.length y.ca, .int .i64 y.r.head, .slice y.pb y.r.args.length y.cb] ∧ IsLv w.heap.size w y := by
  obtain ⟨xs, m, hm, _, hl, hxs, hf⟩ := DataW.trod_struct Tryz.underlying44 h
  rw [cellsLit] at hl
  match cs, hl with
  | [c0, c1, c2, c3, c4], _ =>
    match xs, hxs with
    | [y0, y1, y2], _ =>
      have h0 := hf 0 _ rfl
      have h1 := hf 1 _ rfl
      have h2 := hf 2 _ rfl
      simp [cellsBool, cellsTerm] at h0 h1 h2
      obtain ⟨k, e0, _⟩ := DataW.trod_bool Tryz.underlying4 h0
      obtain ⟨t, a, c, e1, wf1, hA⟩ := (trod_terms _).1 h1
      obtain ⟨u, b, d, e2, wf2, hB⟩ := (trod_terms _).1 h2
      simp at e0 e1 e2
      obtain ⟨rfl, rfl⟩ := e1
      obtain ⟨rfl, rfl⟩ := e2
      subst e0
      exact ⟨⟨k, t, u, a, c, b, d⟩, rfl, wf1, wf2, hA, hB⟩
end
end Go.Proofs.YtpncmdlbmnmahaaGreat

/- Reading clauses out of memory. -/
namespace Go.Proofs.YtpncmdlbmnmahaaGreat
set_option linter.unusedVariables false
set_option linter.unusedSimpArgs false
set_option maxRecDepth 100000
open Go.ChangeShapes Go.WideShapes Go.ChangeAt Go.RowKit Go.Joins
section
variable {H : Type} {enc : TypeId × Value → H} {w : World} {sp : Nat → Bool} {hd : Bool}
theorem trod_cl {n : Nat} {cs : List Value} {x : DataW H × List MemPlace} (h : DataW.trod enc Tryz.prog w 0 sp hd n 23 cs = some x) : ∃ (P : List LV) (a : Option Addr) (c : Nat), cs = [.slice a P.length c] ∧ IsCl w.heap.size w P a c := by
  rcases DataW.trod_slice Tryz.underlying23 h with ⟨rfl, _⟩ | ⟨a, len, cap, elems, rest, m, hm, rfl, _, _, hlc, hcm, hel, hcell, _, _⟩
  · exact ⟨[], none, 0, rfl, ⟨Nat.le_refl _, by simp [maxLen], .inl rfl⟩⟩
  · cases len with
    | zero => exact ⟨[], some a, cap, rfl, ⟨hlc, hcm, .inl rfl⟩⟩
    | succ len =>
      have each : ∀ i, i < len + 1 → ∃ y : LV, IsLv w.heap.size w y ∧ w.cell? ((a.add (i * 5)).add 0) = some (.bool y.n) ∧ w.cell? ((a.add (i * 5)).add 1) = some (.int .i64 y.l.head) ∧ w.cell? ((a.add (i * 5)).add 2) = some (.slice y.pa y.l.args.length y.ca) ∧ w.cell? ((a.add (i * 5)).add 3) = some (.int .i64 y.r.head) ∧ w.cell? ((a.add (i * 5)).add 4) = some (.slice y.pb y.r.args.length y.cb) := by
        intro i hi
        have h1 := hcell i hi
        rw [List.getElem?_eq_getElem (by omega), cellsLit, Option.bind_eq_some_iff] at h1
        obtain ⟨cs, hcs, ht⟩ := h1
        obtain ⟨y, rfl, hy⟩ := trod_lit ht
        refine ⟨y, hy, ?_, ?_, ?_, ?_, ?_⟩
        · exact mapM_some_get (by simpa [World.cells?] using hcs) 0 0 rfl
        · exact mapM_some_get (by simpa [World.cells?] using hcs) 1 1 rfl
        · exact mapM_some_get (by simpa [World.cells?] using hcs) 2 2 rfl
        · exact mapM_some_get (by simpa [World.cells?] using hcs) 3 3 rfl
        · exact mapM_some_get (by simpa [World.cells?] using hcs) 4 4 rfl
      obtain ⟨b, o, spot⟩ := a
      have hspot : spot = none := by
        obtain ⟨y, _, h1, _⟩ := each 0 (by omega)
        cases spot with
        | none => rfl
        | some k => unfold World.cell? at h1; simp [Addr.add] at h1; split at h1 <;> simp at h1
      subst hspot
      simp only [add_none, Nat.add_zero] at each
      have hlt : b < w.heap.size := by
        obtain ⟨y, _, h1, _⟩ := each 0 (by omega)
        exact lt_of_cell h1
      have hall : ∀ (n o : Nat), (∀ i, i < n → ∃ y : LV, At5 w b (o + i * 5) y ∧ IsLv w.heap.size w y) → ∃ P : List LV, P.length = n ∧ ∀ (j : Nat) (y : LV), P[j]? = some y → At5 w b (o + j * 5) y ∧ IsLv w.heap.size w y := by
        intro n
        induction n with
        | zero => intro o _; exact ⟨[], rfl, by simp⟩
        | succ n ih =>
          intro o h
          obtain ⟨z, hz⟩ := h 0 (by omega)
          obtain ⟨zs, hl, hr⟩ := ih (o + 5) (fun i hi => by
            obtain ⟨y, hy⟩ := h (i + 1) (by omega)
            exact ⟨y, by rw [show o + 5 + i * 5 = o + (i + 1) * 5 from by omega]; exact hy⟩)
          refine ⟨z :: zs, by simp [hl], fun j y hj => ?_⟩
          cases j with
          | zero => simp at hj; subst hj; simpa using hz
          | succ j => rw [show o + (j + 1) * 5 = o + 5 + j * 5 from by omega]; exact hr j y (by simpa using hj)
      obtain ⟨P, hl, hr⟩ := hall (len + 1) o (fun i hi => by
        obtain ⟨y, h0, h1, h2, h3, h4, h5⟩ := each i hi
        exact ⟨y, ⟨h1, h2, h3, h4, h5⟩, h0⟩)
      exact ⟨P, some ⟨b, o, none⟩, cap, by rw [hl], ⟨by omega, hcm, .inr ⟨b, o, rfl, hlt, hr⟩⟩⟩
/-- A nil slice has no capacity. -/
theorem cl_nil {v : Value} {d : DataW H} {p : List MemPlace} (h : DataW.Trod enc Tryz.prog w 0 sp hd 23 v d p) {a : Option Addr} {l c : Nat} (e : v = .slice a l c) : a = none → c = 0 := by
  subst e
  rintro rfl
  obtain ⟨n, hn⟩ := h
  rcases DataW.trod_slice Tryz.underlying23 hn with ⟨e, _⟩ | ⟨a, len, cap, elems, rest, m, hm, e, _⟩
  · simp [Value.cells] at e; exact e.2
  · simp [Value.cells] at e
/-- An argument of type []Lit. -/
theorem open_cl {r : Reach} {b0 : Nat} {v : Value} {d : DataW H} {p : List MemPlace} (hv : Value.okWide Tryz.prog w r b0 23 v) (h : DataW.Trod enc Tryz.prog w 0 sp hd 23 v d p) :
    ∃ (P : List LV) (a : Option Addr) (c : Nat), v = .slice a P.length c ∧ IsCl w.heap.size w P a c := by
  obtain ⟨a, len, cap, rfl⟩ := okWide_slice Tryz.underlying23 hv
  obtain ⟨n, hn⟩ := h
  obtain ⟨P, a', c, e, hA⟩ := trod_cl hn
  simp [Value.cells] at e
  obtain ⟨rfl, rfl, rfl⟩ := e
  exact ⟨P, a, cap, rfl, hA⟩
end
end Go.Proofs.YtpncmdlbmnmahaaGreat

/- Contracts of the reference's Depth, good, Check and Right. -/
namespace Go.Proofs.YtpncmdlbmnmahaaGreat
set_option linter.unusedVariables false
set_option linter.unusedSimpArgs false
open Go.RowKit
theorem refDepth_any : ∀ (N : Nat) (t : T), t.size ≤ N → t.size ≤ 1000000000000 → ∀ (n₀ : Nat) (a : Option Addr) (c : Nat) (w : World), n₀ ≤ w.heap.size → IsArgs n₀ w t.args a c →
    Calls Tryz.prog 116 #[tm t.head a t.args.length c] w fun e w' => e = .returned (.int .i64 (t.depth : Nat)) ∧ Below w.heap.size w w' := by
  intro N
  induction N with
  | zero => intro t ht; have := T.size_pos t; omega
  | succ N ih =>
    intro t ht hbig n₀ a c w hn hA
    have IH := Lib.hid ih
    clear ih
    have hsz := T.size_eq t
    have HS := Lib.hid hsz
    have HD := Lib.hid (T.depth_eq t)
    have hdl : T.depths t.args ≤ 1000000000000 := by have := T.depths_le_sizes t.args; omega
    have HDL := Lib.hid hdl
    clear hsz hdl
    have hlc : t.args.length ≤ c ∧ c ≤ maxLen := ⟨hA.1, hA.2.1⟩
    unfold maxLen at hlc
    obtain ⟨hl1, hl2⟩ := hlc
    generalize hL : t.args.length = len at *
    have HL := Lib.hid hL
    clear hL
    have HA := Lib.hid hA
    clear hA
    go_enter Tryz.func116, Tryz.ntmps116
    go_wp2
    go_loopw [3, 4] (fun n i wr => ∃ k : Nat, k ≤ len ∧ i = .int .i64 k ∧ n = .int .i64 (T.depths (t.args.take k) : Nat) ∧ Below (w.heap.size + 1) (w.alloc (tmCells t.head a len c)) wr)
      (fun _ i _ => len - (intOf i).toNat)
    case atStart => exact ⟨0, Nat.zero_le _, rfl, by simp [T.depths], Below.refl _ _⟩
    case round =>
      obtain ⟨k, hk, rfl, rfl, hB⟩ := hrel
      generalize hm' : T.depths (t.args.take k) = m at *
      have hmb : m ≤ 1000000000000 := by
        have h3 := T.depths_append (t.args.take k) (t.args.drop k)
        rw [List.take_append_drop] at h3
        have := HDL.out
        omega
      have HM := Lib.hid hm'
      clear hm'
      have hbox : wr.cell? ⟨w.heap.size, 1, none⟩ = some (.slice a len c) := (hB.cell (p := ⟨w.heap.size, 1, none⟩) (by simp)).trans (by simp [go_sem])
      have HB := Lib.hid hB
      clear hB
      by_cases hlt : k < len
      · have hw : Below n₀ w wr := ((Below.refl n₀ w).alloc hn _).trans (HB.out.mono (by omega))
        obtain ⟨b, o, s, a', c', rfl, hbn, hs, hwf, hc1, hc2, hA'⟩ := (HA.out.below hw).elem (i := k) (by rw [HL.out]; exact hlt)
        have hs1 : wr.heap.size ≥ w.heap.size + 1 := by have := HB.out.size; simpa using this
        have hsN : s.size ≤ N := by have := T.size_lt_of_mem hs; have := HS.out; omega
        have hsb : s.size ≤ 1000000000000 := by have := T.size_lt_of_mem hs; have := HS.out; omega
        have HSS := Lib.hid hs
        have HA' := Lib.hid hA'
        clear hs hA' hw hwf
        go_wp2_with fail
        refine (IH.out s hsN hsb n₀ a' c' wr (by omega) HA'.out).mono ?_
        rintro e w2 ⟨rfl, hB2⟩
        generalize hr : s.depth = r at *
        have HR := Lib.hid hr
        have HB2 := Lib.hid hB2
        clear hr hB2
        go_wp2
        go_roundw
        case rel =>
          refine ⟨k + 1, by omega, by go_num, ?_, HB.out.trans (HB2.out.mono (by omega))⟩
          have h1 := HM.out
          have h2 := HR.out
          have h3 := T.depths_take HSS.out
          rw [h1, h2] at h3
          rw [h3]
          congr 1
          omega
        case measure => simp [intOf]; omega
      · go_wp2
        go_ret
        refine ⟨?_, (((Below.refl w.heap.size w).alloc (Nat.le_refl _) _).trans (HB.out.mono (by omega)))⟩
        have h1 := HM.out
        have h2 := HD.out
        rw [List.take_of_length_le (by have := HL.out; omega)] at h1
        rw [h2, h1]
        show Ending.returned (Value.int .i64 ((m : Int) + 1)) = _
        congr 2
        omega
set_option maxRecDepth 100000 in
set_option maxHeartbeats 1000000 in
theorem refGood_any : ∀ (N : Nat) (t : T), t.size ≤ N → t.size ≤ 1000000000000 → ∀ (n₀ : Nat) (a : Option Addr) (c : Nat) (w : World), n₀ ≤ w.heap.size → IsArgs n₀ w t.args a c →
    Calls Tryz.prog 117 #[tm t.head a t.args.length c] w fun e w' => e = .returned (.bool (!bad (T.subs 1 t))) ∧ Below w.heap.size w w' := by
  intro N
  induction N with
  | zero => intro t ht; have := T.size_pos t; omega
  | succ N ih =>
    intro t ht hbig n₀ a c w hn hA
    have IH := Lib.hid ih
    clear ih
    have HS := Lib.hid (T.size_eq t)
    have HE := Lib.hid (bad_eq t)
    have hlc : t.args.length ≤ c ∧ c ≤ maxLen := ⟨hA.1, hA.2.1⟩
    unfold maxLen at hlc
    obtain ⟨hl1, hl2⟩ := hlc
    generalize hL : t.args.length = len at *
    have HL := Lib.hid hL
    clear hL
    have HA := Lib.hid hA
    have HF := Lib.hid (show Below w.heap.size w (w.alloc (tmCells t.head a len c)) from (Below.refl _ _).alloc (Nat.le_refl _) _)
    clear hA
    have hokN : ∀ (P : Prop), P → (okB t.head len = false) → True := fun _ _ _ => trivial
    clear hokN
    by_cases q1 : t.head < 0
    · by_cases q2 : 0 < len
      · have hd : bad (T.subs 1 t) = true := by rw [HE.out]; simp [okB, q1, show ¬ len = 0 from by omega]
        rw [hd]
        go_enter Tryz.func117, Tryz.ntmps117
        go_wp2
        go_ret
        exact ⟨by first | (rw [hd]; rfl) | rfl, HF.out⟩
      · obtain rfl : len = 0 := by omega
        by_cases q3 : t.head < -256
        · have hd : bad (T.subs 1 t) = true := by rw [HE.out]; simp [okB, q1, show ¬ -1 - t.head ≤ 255 from by omega]
          rw [hd]
          go_enter Tryz.func117, Tryz.ntmps117
          go_wp2
          go_ret
          exact ⟨by first | (rw [hd]; rfl) | rfl, HF.out⟩
        · have hd : bad (T.subs 1 t) = false := by
            rw [HE.out, List.eq_nil_of_length_eq_zero HL.out]
            simp [okB, q1, show -1 - t.head ≤ 255 from by omega, T.subss, bad]
          rw [hd]
          have q4 : ¬ 1023 < t.head := by omega
          have q5 : ¬ (8 : Int) < 0 := by omega
          go_enter Tryz.func117, Tryz.ntmps117
          go_wp2
          go_loopw [3] (fun i wr => i = .int .i64 0 ∧ wr = w.alloc (tmCells t.head a 0 c)) (fun _ _ => 0)
          case atStart => exact ⟨by first | (rw [hd]; rfl) | rfl, rfl⟩
          case round =>
            obtain ⟨rfl, rfl⟩ := hrel
            go_wp2
            go_ret
            exact ⟨by first | (rw [hd]; rfl) | rfl, HF.out⟩
    · have q3 : ¬ t.head < -256 := by omega
      by_cases q4 : 1023 < t.head
      · have hd : bad (T.subs 1 t) = true := by rw [HE.out]; simp [okB, q1, show ¬ t.head ≤ 1023 from by omega]
        rw [hd]
        go_enter Tryz.func117, Tryz.ntmps117
        go_wp2
        go_ret
        exact ⟨by first | (rw [hd]; rfl) | rfl, HF.out⟩
      · by_cases q5 : 8 < len
        · have hd : bad (T.subs 1 t) = true := by rw [HE.out]; simp [okB, q1, show ¬ len ≤ 8 from by omega]
          have q5' : (8 : Int) < (len : Int) := by omega
          rw [hd]
          go_enter Tryz.func117, Tryz.ntmps117
          go_wp2
          go_ret
          exact ⟨by first | (rw [hd]; rfl) | rfl, HF.out⟩
        · have hd : bad (T.subs 1 t) = bad (T.subss 2 t.args) := by rw [HE.out]; simp [okB, q1, show t.head ≤ 1023 from by omega, show len ≤ 8 from by omega]
          have q5' : ¬ (8 : Int) < (len : Int) := by omega
          rw [hd]
          clear hd
          go_enter Tryz.func117, Tryz.ntmps117
          go_wp2
          go_loopw [3] (fun i wr => ∃ k : Nat, k ≤ len ∧ i = .int .i64 k ∧ bad (T.subss 2 (t.args.take k)) = false ∧ Below (w.heap.size + 1) (w.alloc (tmCells t.head a len c)) wr)
            (fun i _ => len - (intOf i).toNat)
          case atStart => exact ⟨0, Nat.zero_le _, rfl, by simp [T.subss, bad], Below.refl _ _⟩
          case round =>
            obtain ⟨k, hk, rfl, hbd, hB⟩ := hrel
            have HBD := Lib.hid hbd
            have hbox : wr.cell? ⟨w.heap.size, 1, none⟩ = some (.slice a len c) := (hB.cell (p := ⟨w.heap.size, 1, none⟩) (by simp)).trans (by simp [go_sem])
            have HB := Lib.hid hB
            clear hB hbd
            by_cases hlt : k < len
            · have hw : Below n₀ w wr := ((Below.refl n₀ w).alloc hn _).trans (HB.out.mono (by omega))
              obtain ⟨b, o, s, a', c', rfl, hbn, hs, hwf, hc1, hc2, hA'⟩ := (HA.out.below hw).elem (i := k) (by rw [HL.out]; exact hlt)
              have hs1 : wr.heap.size ≥ w.heap.size + 1 := by have := HB.out.size; simpa using this
              have hsN : s.size ≤ N := by have := T.size_lt_of_mem hs; have := HS.out; omega
              have hsb : s.size ≤ 1000000000000 := by have := T.size_lt_of_mem hs; have := HS.out; omega
              have HSS := Lib.hid hs
              have HA' := Lib.hid hA'
              clear hs hA' hw hwf
              go_wp2_with fail
              refine (IH.out s hsN hsb n₀ a' c' wr (by omega) HA'.out).mono ?_
              rintro e w2 ⟨rfl, hB2⟩
              have HB2 := Lib.hid (HB.out.trans (hB2.mono (by omega)))
              clear hB2
              cases hb : bad (T.subs 1 s)
              · have HBS := Lib.hid hb
                clear hb
                go_wp2
                go_roundw
                case rel => exact ⟨k + 1, by omega, by go_num, by rw [bads_take HSS.out, HBD.out, HBS.out]; rfl, HB2.out⟩
                case measure => simp [intOf]; omega
              · have hd := bads_mem HSS.out hb
                clear hb
                go_wp2
                go_ret
                exact ⟨by first | (rw [hd]; rfl) | rfl, ((Below.refl w.heap.size w).alloc (Nat.le_refl _) _).trans (HB2.out.mono (by omega))⟩
            · have hd := HBD.out
              rw [List.take_of_length_le (by have := HL.out; omega)] at hd
              go_wp2
              go_ret
              exact ⟨by first | (rw [hd]; rfl) | rfl, ((Below.refl w.heap.size w).alloc (Nat.le_refl _) _).trans (HB.out.mono (by omega))⟩
set_option maxRecDepth 100000 in
set_option maxHeartbeats 1000000 in
theorem refCheck_any (t : T) (ht : t.size ≤ 1000000000000) (n₀ : Nat) (a : Option Addr) (c : Nat) (w : World) (hn : n₀ ≤ w.heap.size) (hA : IsArgs n₀ w t.args a c) :
    Calls Tryz.prog 84 #[tm t.head a t.args.length c] w fun e w' => e = .returned (.int .i64 t.check) ∧ Below w.heap.size w w' := by
  have hdl := T.depth_le_size t
  obtain ⟨w1, hw1⟩ : ∃ w1, w.alloc (tmCells t.head a t.args.length c) = w1 := ⟨_, rfl⟩
  have hb1 : Below w.heap.size w w1 := by rw [← hw1]; exact (Below.refl _ w).alloc (Nat.le_refl _) _
  have L1 := Lib.hid (show ∀ W, Below w1.heap.size w1 W → W.cell? ⟨w.heap.size, 0, none⟩ = some (.int .i64 t.head) ∧ W.cell? ⟨w.heap.size, 1, none⟩ = some (.slice a t.args.length c) ∧ IsArgs n₀ W t.args a c ∧ Below w.heap.size w W ∧ n₀ ≤ W.heap.size from fun W hW => by
    have h := hb1.trans (hW.mono hb1.size)
    exact ⟨(hW.cell (p := ⟨w.heap.size, 0, none⟩) (by rw [← hw1]; simp)).trans (by rw [← hw1]; simp [go_sem]), (hW.cell (p := ⟨w.heap.size, 1, none⟩) (by rw [← hw1]; simp)).trans (by rw [← hw1]; simp [go_sem]), hA.below (h.mono hn), h, Nat.le_trans hn h.size⟩)
  clear hA hb1
  obtain ⟨c0, c1, _, _, _⟩ := L1.out w1 (Below.refl _ _)
  go_enter Tryz.func84, Tryz.ntmps84
  go_wp2_with fail
  obtain ⟨_, _, hA, hb, hz⟩ := L1.out w1 (Below.refl _ _)
  clear hw1 c0 c1
  refine (refSize_any t.size t (Nat.le_refl _) ht n₀ a c w1 hz hA).mono ?_
  rintro e w2 ⟨rfl, hb2⟩
  clear hA hb hz
  obtain ⟨c0, c1, hA, hb, hz⟩ := L1.out w2 hb2
  by_cases q1 : 400 < t.size
  · have hd : t.check = 2 := by unfold T.check; rw [if_pos q1]
    have q1' : (400 : Int) < (t.size : Int) := by omega
    have HB := Lib.hid hb
    clear hb2 hA hb
    go_wp2
    go_ret
    exact ⟨by first | (rw [hd]; rfl) | rfl, HB.out⟩
  · have q1' : ¬ (400 : Int) < (t.size : Int) := by omega
    have HA := Lib.hid hA
    have HB2 := Lib.hid hb2
    clear hA hb hb2
    go_wp2_with fail
    refine (refDepth_any t.size t (Nat.le_refl _) ht n₀ a c w2 hz HA.out).mono ?_
    rintro e w3 ⟨rfl, hb3⟩
    have hb3' := HB2.out.trans (hb3.mono HB2.out.size)
    clear c0 c1 HA hz hb3
    obtain ⟨c0, c1, hA, hb, hz⟩ := L1.out w3 hb3'
    by_cases q2 : 40 < t.depth
    · have hd : t.check = 7 := by unfold T.check; rw [if_neg q1, if_pos q2]
      have q2' : (40 : Int) < (t.depth : Int) := by omega
      have HB := Lib.hid hb
      clear hb3' hA hb
      go_wp2
      go_ret
      exact ⟨by first | (rw [hd]; rfl) | rfl, HB.out⟩
    · have q2' : ¬ (40 : Int) < (t.depth : Int) := by omega
      have HA := Lib.hid hA
      have HB3 := Lib.hid hb3'
      clear hA hb hb3'
      go_wp2_with fail
      refine (refGood_any t.size t (Nat.le_refl _) ht n₀ a c w3 hz HA.out).mono ?_
      rintro e w4 ⟨rfl, hb4⟩
      have hb4' := HB3.out.trans (hb4.mono HB3.out.size)
      clear c0 c1 HA hz hb4
      obtain ⟨_, _, hA, hb, hz⟩ := L1.out w4 hb4'
      have HB := Lib.hid hb
      clear hb4' hA hb
      cases hbd : bad (T.subs 1 t)
      · have hd : t.check = 0 := by unfold T.check; rw [if_neg q1, if_neg q2, hbd]; rfl
        go_wp2
        go_ret
        exact ⟨by first | (rw [hd]; rfl) | rfl, HB.out⟩
      · have hd : t.check = 1 := by unfold T.check; rw [if_neg q1, if_neg q2, hbd]; rfl
        go_wp2
        go_ret
        exact ⟨by first | (rw [hd]; rfl) | rfl, HB.out⟩
end Go.Proofs.YtpncmdlbmnmahaaGreat

/- Contracts of the document's answer for signatures and weights (layer 7). -/
namespace Go.Proofs.YtpncmdlbmnmahaaGreat
set_option linter.unusedVariables false
set_option linter.unusedSimpArgs false
open Go.RowKit
theorem bl_drew' (W : World) (n : Nat) : Below W.heap.size W (W.drewN n) := ⟨rfl, rfl, rfl, Nat.le_refl _, fun _ _ => rfl⟩
theorem rightG_false {g : Sg} (h : ¬ (1 ≤ g.length ∧ g.length ≤ 256)) : rightG g = false := by
  unfold rightG
  by_cases h1 : 1 ≤ g.length
  · have h2 : ¬ g.length ≤ 256 := fun e => h ⟨h1, e⟩
    simp [h1, h2]
  · simp [h1]
theorem rightG_bad {g : Sg} {k : Nat} {x : Sy} (hx : g[k]? = some x) (hb : badSy x = true) : rightG g = false := by
  have : g.any badSy = true := List.any_eq_true.2 ⟨x, List.mem_of_getElem? hx, hb⟩
  unfold rightG
  simp [this]
theorem rightG_same {g : Sg} {k j : Nat} {x y : Sy} (hx : g[k]? = some x) (hj : j < k) (hy : g[j]? = some y) (e : y.name = x.name) : rightG g = false := by
  have : difSg g = false := by
    cases hd : difSg g with
    | false => rfl
    | true => exact absurd e (difSg_iff.1 hd k j x y hj hx hy)
  unfold rightG
  simp [this]
theorem rightG_end {g : Sg} {x : Sy} (h1 : 1 ≤ g.length) (h2 : g.length ≤ 256) (hx : g[0]? = some x) (hb : ∀ (j : Nat) (y : Sy), j < g.length → g[j]? = some y → badSy y = false) (hd : difK g g.length) : rightG g = decide (x = sy0) := by
  have hd' := difK_all.1 hd
  have hany : g.any badSy = false := by
    rw [List.any_eq_false]
    intro y hy
    obtain ⟨j, hj⟩ := List.getElem?_of_mem hy
    simp [hb j y (List.getElem?_eq_some_iff.1 hj).1 hj]
  unfold rightG
  simp [h1, h2, hx, hd', hany]
theorem eqlSym (x y : Sy) (w : World) : Sem.run Tryz.prog (binOp .eql 72 (sy x) (sy y)) w = .ok (.bool (decide (x = y))) w := by
  have h := neqSym x y w
  simp only [sy] at h ⊢
  rw [run_neq_struct] at h
  rw [run_eql_struct]
  generalize (Op.equalIn 10000 72 (.agg #[.string x.name, .int .i64 x.ar, .int .i64 x.wt, .bool x.tr]) (.agg #[.string y.name, .int .i64 y.ar, .int .i64 y.wt, .bool y.tr])).run Tryz.prog w = r at h ⊢
  cases r with
  | ok b w' =>
    simp only [Result.andThen] at h ⊢
    injection h with h1 h2
    injection h1 with h1
    subst h2
    have : b = decide (x = y) := by
      by_cases e : x = y
      · simp [e] at h1 ⊢; exact h1
      · simp [e] at h1 ⊢; exact h1
    rw [this]
  | halt a w' => simp [Result.andThen] at h
def RiI (g : Sg) (w : World) (i : Value) (wr : World) : Prop := ∃ k : Nat, k ≤ g.length ∧ i = .int .i64 k ∧ (∀ (j : Nat) (y : Sy), j < k → g[j]? = some y → badSy y = false) ∧ difK g k ∧ Below w.heap.size w wr
def RiJ (g : Sg) (x : Sy) (k : Nat) (B : Nat) (w1 : World) (i : Value) (wr : World) : Prop := ∃ j : Nat, j ≤ k ∧ i = .int .i64 j ∧ (∀ (l : Nat) (y : Sy), l < j → g[l]? = some y → y.name ≠ x.name) ∧ Below B w1 wr
set_option maxRecDepth 100000 in
set_option maxHeartbeats 4000000 in
theorem r7Right_any (g : Sg) (n₀ : Nat) (a : Option Addr) (c : Nat) (w : World) (hn : n₀ ≤ w.heap.size) (hG : IsSg n₀ w g a c) :
    Calls Tryz.prog 41 #[.slice a g.length c] w fun e w' => e = .returned (.bool (rightG g)) ∧ Below w.heap.size w w' := by
  have hlc : g.length ≤ c ∧ c ≤ maxLen := ⟨hG.1, hG.2.1⟩
  unfold maxLen at hlc
  obtain ⟨hl1, hl2⟩ := hlc
  have HG := Lib.hid hG
  clear hG
  by_cases q1 : g.length < 1
  · have HE := Lib.hid (rightG_false (g := g) (by omega))
    go_enter Tryz.func41, Tryz.ntmps41
    go_wp2
    go_ret
    exact ⟨by rw [HE.out]; rfl, Below.refl _ _⟩
  by_cases q2 : 256 < g.length
  · have HE := Lib.hid (rightG_false (g := g) (by omega))
    go_enter Tryz.func41, Tryz.ntmps41
    go_wp2
    go_ret
    exact ⟨by rw [HE.out]; rfl, Below.refl _ _⟩
  go_enter Tryz.func41, Tryz.ntmps41
  go_wp2
  go_loopw [3, 4, 5] (fun i _ _ wr => RiI g w i wr) (fun i _ _ _ => g.length - (intOf i).toNat)
  case atStart => exact ⟨0, Nat.zero_le _, rfl, fun j y hj => by omega, fun i j x y hi => by omega, Below.refl _ _⟩
  case round =>
    obtain ⟨k, hk, rfl, hbd, hdk, hB⟩ := hrel
    have HBD := Lib.hid hbd
    have HDK := Lib.hid hdk
    have HB := Lib.hid hB
    have hbz := hB.size
    clear hbd hdk hB
    by_cases hlt : k < g.length
    · obtain ⟨b, o, x, rfl, hbn, hs, hxw, hc0, hc1, hc2, hc3⟩ := (HG.out.below (HB.out.mono hn)).elem (i := k) hlt
      have hk0 : (0 : Int) ≤ (k : Int) := Int.natCast_nonneg _
      have hk1 : (k : Int) < (g.length : Int) := by omega
      have hbw : b < wr.heap.size := by omega
      have HXK := Lib.hid hs
      have hb1 : Below w.heap.size w (wr.alloc (.cells #[.string x.name, .int .i64 x.ar, .int .i64 x.wt, .bool x.tr] 72)) := HB.out.alloc hbz _
      have HB1 := Lib.hid hb1
      have hxs : x.name.size ≤ 9223372036854775807 := by have := hxw.1; unfold maxLen at this; omega
      clear hs hxw hb1
      by_cases hbad : badSy x = true
      · have HE := Lib.hid (rightG_bad HXK.out hbad)
        have hcs : (x.name.size < 1) ∨ (¬ x.name.size < 1 ∧ 64 < x.name.size) ∨ (¬ x.name.size < 1 ∧ ¬ 64 < x.name.size ∧ x.ar < 0) ∨ (¬ x.name.size < 1 ∧ ¬ 64 < x.name.size ∧ ¬ x.ar < 0 ∧ 8 < x.ar) ∨ (¬ x.name.size < 1 ∧ ¬ 64 < x.name.size ∧ ¬ x.ar < 0 ∧ ¬ 8 < x.ar ∧ x.wt < 1) ∨ (¬ x.name.size < 1 ∧ ¬ 64 < x.name.size ∧ ¬ x.ar < 0 ∧ ¬ 8 < x.ar ∧ ¬ x.wt < 1 ∧ 1000 < x.wt) := by
          simp only [badSy, Bool.or_eq_true, decide_eq_true_eq] at hbad
          omega
        clear hbad
        rcases hcs with h1 | ⟨h1, h2⟩ | ⟨h1, h2, h3⟩ | ⟨h1, h2, h3, h4⟩ | ⟨h1, h2, h3, h4, h5⟩ | ⟨h1, h2, h3, h4, h5, h6⟩
        all_goals
          go_wp2
          go_ret
          exact ⟨by rw [HE.out]; rfl, HB1.out⟩
      · have HNB := Lib.hid (show badSy x = false from by simpa using hbad)
        simp only [badSy, Bool.or_eq_true, decide_eq_true_eq, not_or] at hbad
        obtain ⟨⟨⟨⟨⟨h1, h2⟩, h3⟩, h4⟩, h5⟩, h6⟩ := hbad
        go_wp2
        have hsz1 : (wr.alloc (.cells #[.string x.name, .int .i64 x.ar, .int .i64 x.wt, .bool x.tr] 72)).heap.size = wr.heap.size + 1 := by simp
        have hx0 : (wr.alloc (.cells #[.string x.name, .int .i64 x.ar, .int .i64 x.wt, .bool x.tr] 72)).cell? ⟨wr.heap.size, 0, none⟩ = some (.string x.name) := by simp [go_sem]
        generalize wr.alloc (.cells #[.string x.name, .int .i64 x.ar, .int .i64 x.wt, .bool x.tr] 72) = w1 at *
        generalize hB0 : wr.heap.size = B0 at *
        go_loopw [5] (fun i wi => RiJ g x k (B0 + 1) w1 i wi) (fun i _ => k - (intOf i).toNat)
        case atStart => exact ⟨0, Nat.zero_le _, rfl, fun j y hj => by omega, Below.refl _ _⟩
        case round =>
          obtain ⟨j, hj, rfl, hno, hB2⟩ := hrel
          have HNO := Lib.hid hno
          have HB2 := Lib.hid hB2
          have hB2z := hB2.size
          clear hno hB2
          by_cases hjk : j < k
          · have hx0' := (HB2.out.cell (p := ⟨B0, 0, none⟩) (by simp)).trans hx0
            have hBr : Below w.heap.size w wr := HB1.out.trans (HB2.out.mono (by omega))
            obtain ⟨b', o', y, hbo, hbn', hy, hyw, hd0, _, _, _⟩ := (HG.out.below (hBr.mono hn)).elem (i := j) (by omega)
            injection hbo with hbo
            injection hbo with hbo1 hbo2
            subst hbo1 hbo2
            have hj0 : (0 : Int) ≤ (j : Int) := Int.natCast_nonneg _
            have hj1 : (j : Int) < (g.length : Int) := by omega
            have hj2 : (j : Int) < (k : Int) := by omega
            have HY := Lib.hid hy
            have HBR := Lib.hid hBr
            clear hy hyw hBr
            by_cases he : y.name = x.name
            · have HE := Lib.hid (rightG_same HXK.out hjk HY.out he)
              rw [← he] at hx0'
              go_wp2
              go_quiet (fail)
              go_wp2
              go_ret
              exact ⟨by rw [HE.out]; rfl, HBR.out.trans ((bl_drew' _ _).mono HBR.out.size)⟩
            · have hne3 : (y.name.toList == x.name.toList) = false := by simpa using (show y.name.toList ≠ x.name.toList from fun e => he ((tl_iff _ _).1 e))
              go_wp2
              go_quiet (fail)
              go_wp2
              go_roundw
              case rel => exact ⟨j + 1, by omega, by go_num, fun l z hl hz => by
                by_cases e : l = j
                · subst e; rw [HY.out] at hz; obtain rfl := Option.some.inj hz; exact he
                · exact HNO.out l z (by omega) hz, HB2.out.trans ((bl_drew' _ _).mono (by omega))⟩
              case measure => simp [intOf]; omega
          · obtain rfl : j = k := by omega
            go_wp2
            go_roundw
            case rel => exact ⟨j + 1, by omega, by go_num, fun l z hl hz => by
                by_cases e : l = j
                · subst e; rw [HXK.out] at hz; obtain rfl := Option.some.inj hz; exact HNB.out
                · exact HBD.out l z (by omega) hz, (difK_step HXK.out).2 ⟨HDK.out, fun l z hl hz => HNO.out l z hl hz⟩, HB1.out.trans (HB2.out.mono (by omega))⟩
            case measure => simp [intOf]; omega
    · obtain rfl : k = g.length := by omega
      obtain ⟨b, o, x, rfl, hbn, hs, hxw, hc0, hc1, hc2, hc3⟩ := (HG.out.below (HB.out.mono hn)).elem (i := 0) (by omega)
      simp only [Nat.zero_mul, Nat.add_zero] at hc0 hc1 hc2 hc3
      have HE := Lib.hid (rightG_end (by omega) (by omega) hs HBD.out HDK.out)
      have hgd := fun (op : BinOp) (p q : Operand) (u v : Array Value) (W : World) => run_eqGuard_agg (P := Tryz.prog) W op 72 p q u v (by kernel_rfl)
      have heql : ∀ W, Sem.run Tryz.prog (binOp .eql 72 (.agg #[.string x.name, .int .i64 x.ar, .int .i64 x.wt, .bool x.tr]) (.agg #[.string ⟨#[36, 116, 114, 117, 101]⟩, .int .i64 0, .int .i64 1, .bool true])) W = .ok (.bool (decide (x = sy0))) W := fun W => eqlSym x sy0 W
      clear hs hxw
      have h0k : (0 : Int) < (g.length : Int) := by omega
      go_wp2
      go_ret
      exact ⟨by rw [HE.out]; rfl, HB.out⟩
end Go.Proofs.YtpncmdlbmnmahaaGreat
