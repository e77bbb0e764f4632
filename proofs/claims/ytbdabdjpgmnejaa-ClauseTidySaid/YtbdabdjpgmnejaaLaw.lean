/- Reading terms out of memory; and how the walk of a law becomes its row. -/
import Derived.Test.YtbdabdjpgmnejaaQBb
import Derived.Test.YtbdabdjpgmnejaaRows
import Derived.ProofKit
import Derived.OpenShut
import Derived.Carry
import Derived.Lib.SmallJoins
namespace Go.Proofs.Ytbdabdjpgmnejaa
set_option linter.unusedVariables false
set_option linter.unusedSimpArgs false
set_option maxRecDepth 100000
open Go.ChangeShapes Go.WideShapes Go.ChangeAt Go.RowKit Go.Joins
theorem own : ownKnob Try.prog.godebug = none := by kernel_rfl
theorem laid : laidOutB Try.prog = true := by kernel_rfl
theorem cellsTerm : Try.prog.cellsOf 28 = 2 := by kernel_rfl
theorem cellsInt : Try.prog.cellsOf 3 = 1 := by kernel_rfl
theorem cellsTerms : Try.prog.cellsOf 26 = 1 := by kernel_rfl
/-! ### From the walk to the row -/
section
variable {H : Type} {enc : TypeId × Value → H} {P : Program}
/-- Arguments that lie below the old end of the heap read as they did. -/
theorem trodAll_later (hl : laidOutB P = true) {W W' : World} (hb : Below W.heap.size W W') : ∀ {ts : List TypeId} {vs : List Value} {ds : List (DataW H)} {ps : List MemPlace},
    (∀ t ∈ ts, P.readableRec t = true ∧ t < P.types.size) → (∀ x ∈ ps, x.block < W.heap.size) → DataW.TrodAll enc P W 0 (fun _ => true) true ts vs ds ps → DataW.TrodAll enc P W' 0 (fun b => decide (b < W.heap.size)) true ts vs ds ps
  | [], [], [], _, _, _, h => h
  | t :: _, _ :: _, _ :: _, _, ht, hlt, ⟨p, q, h1, h2, e⟩ => by
    obtain ⟨r1, r2⟩ := ht t (List.mem_cons.2 (Or.inl rfl))
    exact ⟨p, q, Below.trod hl r1 r2 h1 hb (fun x hx => hlt x (by rw [e]; exact List.mem_append_left _ hx)),
      trodAll_later hl hb (fun t ht' => ht t (List.mem_cons.2 (Or.inr ht'))) (fun x hx => hlt x (by rw [e]; exact List.mem_append_right _ hx)) h2, e⟩
/-- A law that returns true, and under which the old memory stays: what its row asks behind the call. -/
theorem post_law (hl : laidOutB P = true) {f : Func} {s : ChangeSpec} {W W' : World} {args : Array Value} {ds gs : List (DataW H)} {before : List MemPlace} {tb : TypeId} {apart fresh handsOn : Bool}
    (hu : P.underlying tb = some .bool) (hr : f.resultTypes = #[tb]) (hv : s.vars = [])
    (hp : ∀ t ∈ f.params.toList, P.readableRec t = true ∧ t < P.types.size)
    (hfn : ∀ gs : List (DataW H), gs = [] → s.fn H (ds ++ gs) = { results := [.lit (.bool true)], args := ds })
    (hW : DataW.Whole enc P f.params.toList s.vars apart W args.toList ds gs before) (hb : Below W.heap.size W W') :
    s.post enc P f apart fresh handsOn false W args (.bool true) W' := by
  have hW' := hW
  obtain ⟨p, q, hA, hV, rfl, _, _⟩ := hW
  rw [hv] at hV
  obtain ⟨rfl, rfl⟩ := trodVars_none hV
  have e := hfn [] rfl
  refine ⟨ds, [], p ++ [], [], p, [], hW', ?_, ?_, ?_, hb.frame _, fun h => by cases h⟩
  · rw [e, hr]
    exact trodAll_cons_mk (p := []) (p' := []) (shut_bool hu true) trodAll_mk0
  · rw [e]
    exact trodAll_later hl hb hp (fun x hx => by simpa using hW'.lt x (List.mem_append_left _ hx)) hA
  · rw [e, hv]; rfl
end
/-! ### A term that reads as data lies in memory as a term -/
theorem isRow_of {n₀ : Nat} {w : World} {b : Nat} : ∀ (n : Nat) (o : Nat), (∀ i, i < n → ∃ t, IsT n₀ w t b (o + i * 2)) → ∃ ts : List T, ts.length = n ∧ IsRow n₀ w ts b o := by
  intro n
  induction n with
  | zero => intro o _; exact ⟨[], rfl, trivial⟩
  | succ n ih =>
    intro o h
    obtain ⟨t, ht⟩ := h 0 (by omega)
    obtain ⟨ts, hl, hr⟩ := ih (o + 2) (fun i hi => by
      obtain ⟨s, hs⟩ := h (i + 1) (by omega)
      exact ⟨s, by rw [show o + 2 + i * 2 = o + (i + 1) * 2 from by omega]; exact hs⟩)
    exact ⟨t :: ts, by simp [hl], by simp only [IsRow]; exact ⟨by simpa using ht, hr⟩⟩
theorem add_none (b o k : Nat) : (⟨b, o, none⟩ : Addr).add k = ⟨b, o + k, none⟩ := by
  unfold Addr.add; split <;> simp_all
theorem lt_of_cell {w : World} {b o : Nat} {v : Value} (h : w.cell? ⟨b, o, none⟩ = some v) : b < w.heap.size := by
  unfold World.cell? at h
  cases hh : w.heap[b]? with
  | none => simp [hh] at h
  | some x => exact (Array.getElem?_eq_some_iff.1 hh).1
section
variable {H : Type} {enc : TypeId × Value → H} {w : World} {sp : Nat → Bool} {hd : Bool}
theorem trod_terms : ∀ (n : Nat),
    (∀ {cs : List Value} {x : DataW H × List MemPlace}, DataW.trod enc Try.prog w 0 sp hd n 28 cs = some x → ∃ (t : T) (a : Option Addr) (c : Nat), cs = [.int .i64 t.head, .slice a t.args.length c] ∧ (Lit.int .i64 t.head).wf = true ∧ IsArgs w.heap.size w t.args a c) ∧
    (∀ {cs : List Value} {x : DataW H × List MemPlace}, DataW.trod enc Try.prog w 0 sp hd n 26 cs = some x → ∃ (ts : List T) (a : Option Addr) (c : Nat), cs = [.slice a ts.length c] ∧ IsArgs w.heap.size w ts a c) := by
  intro n
  induction n with
  | zero => exact ⟨fun h => by simp [DataW.trod] at h, fun h => by simp [DataW.trod] at h⟩
  | succ n ih =>
    obtain ⟨ih1, ih2⟩ := ih
    constructor
    · intro cs x h
      obtain ⟨xs, m, hm, _, hl, hxs, hf⟩ := DataW.trod_struct Try.underlying28 h
      obtain rfl : n = m := by omega
      rw [cellsTerm] at hl
      match cs, hl with
      | [c0, c1], _ =>
        match xs, hxs with
        | [y0, y1], _ =>
          have h0 := hf 0 _ rfl
          have h1 := hf 1 _ rfl
          simp [cellsInt, cellsTerms] at h0 h1
          obtain ⟨k, e0, _, wf⟩ := DataW.trod_int Try.underlying3 h0
          obtain ⟨ts, a, c, e1, hA⟩ := ih2 h1
          simp at e0 e1
          subst e0 e1
          exact ⟨.node k ts, a, c, rfl, wf, hA⟩
    · intro cs x h
      rcases DataW.trod_slice Try.underlying26 h with ⟨rfl, _⟩ | ⟨a, len, cap, elems, rest, m, hm, rfl, _, _, hlc, hcm, hel, hcell, _, _⟩
      · exact ⟨[], none, 0, rfl, ⟨Nat.le_refl _, by simp [maxLen], .inl rfl⟩⟩
      · obtain rfl : n = m := by omega
        cases len with
        | zero => exact ⟨[], some a, cap, rfl, ⟨hlc, hcm, .inl rfl⟩⟩
        | succ len =>
          have each : ∀ i, i < len + 1 → ∃ (t : T) (a' : Option Addr) (c : Nat), w.cell? ((a.add (i * 2)).add 0) = some (.int .i64 t.head) ∧ w.cell? ((a.add (i * 2)).add 1) = some (.slice a' t.args.length c) ∧ (Lit.int .i64 t.head).wf = true ∧ IsArgs w.heap.size w t.args a' c := by
            intro i hi
            have h1 := hcell i hi
            rw [List.getElem?_eq_getElem (by omega), cellsTerm, Option.bind_eq_some_iff] at h1
            obtain ⟨cs, hcs, ht⟩ := h1
            obtain ⟨t, a', c, rfl, wf, hA⟩ := ih1 ht
            refine ⟨t, a', c, ?_, ?_, wf, hA⟩
            · exact mapM_some_get (by simpa [World.cells?] using hcs) 0 0 rfl
            · exact mapM_some_get (by simpa [World.cells?] using hcs) 1 1 rfl
          obtain ⟨b, o, spot⟩ := a
          have hspot : spot = none := by
            obtain ⟨t, a', c, h1, _⟩ := each 0 (by omega)
            cases spot with
            | none => rfl
            | some k => unfold World.cell? at h1; simp [Addr.add] at h1; split at h1 <;> simp at h1
          subst hspot
          simp only [add_none, Nat.add_zero] at each
          have hlt : b < w.heap.size := by
            obtain ⟨t, a', c, h1, _⟩ := each 0 (by omega)
            exact lt_of_cell h1
          obtain ⟨ts, hts, hrow⟩ := isRow_of (n₀ := w.heap.size) (w := w) (b := b) (len + 1) o (fun i hi => by
            obtain ⟨t, a', c, h1, h2, wf, hA⟩ := each i hi
            exact ⟨t, isT_iff.2 ⟨wf, h1, a', c, h2, hA⟩⟩)
          exact ⟨ts, some ⟨b, o, none⟩, cap, by rw [hts], ⟨by omega, hcm, .inr ⟨b, o, rfl, hlt, hrow⟩⟩⟩
end
end Go.Proofs.Ytbdabdjpgmnejaa
