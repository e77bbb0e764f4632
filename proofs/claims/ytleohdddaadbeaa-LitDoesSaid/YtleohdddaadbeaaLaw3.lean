/- Reading lists of bindings out of memory. -/
import Derived.Test.YtleohdddaadbeaaQBo
import Derived.Test.YtleohdddaadbeaaQDa
namespace Go.Proofs.Ytleohdddaadbeaa
set_option linter.unusedVariables false
set_option linter.unusedSimpArgs false
set_option maxRecDepth 100000
open Go.ChangeShapes Go.WideShapes Go.ChangeAt Go.RowKit Go.Joins

theorem cellsBind : Try.prog.cellsOf 58 = 3 := by kernel_rfl

section
variable {H : Type} {enc : TypeId × Value → H} {w : World} {sp : Nat → Bool} {hd : Bool}

theorem trod_bind {n : Nat} {cs : List Value} {x : DataW H × List MemPlace} (h : DataW.trod enc Try.prog w 0 sp hd n 58 cs = some x) :
    ∃ (v : Int) (t : T) (a : Option Addr) (c : Nat), cs = [.int .i64 v, .int .i64 t.head, .slice a t.args.length c] ∧ (Lit.int .i64 v).wf = true ∧ (Lit.int .i64 t.head).wf = true ∧ IsArgs w.heap.size w t.args a c := by
  obtain ⟨xs, m, hm, _, hl, hxs, hf⟩ := DataW.trod_struct Try.underlying58 h
  rw [cellsBind] at hl
  match cs, hl with
  | [c0, c1, c2], _ =>
    match xs, hxs with
    | [y0, y1], _ =>
      have h0 := hf 0 _ rfl
      have h1 := hf 1 _ rfl
      simp [cellsInt, cellsTerm] at h0 h1
      obtain ⟨k, e0, _, wf⟩ := DataW.trod_int Try.underlying3 h0
      obtain ⟨t, a, c, e1, wf', hA⟩ := (trod_terms _).1 h1
      simp at e0 e1
      obtain ⟨rfl, rfl⟩ := e1
      subst e0
      exact ⟨k, t, a, c, rfl, wf, wf', hA⟩

theorem trod_bs {n : Nat} {cs : List Value} {x : DataW H × List MemPlace} (h : DataW.trod enc Try.prog w 0 sp hd n 28 cs = some x) : ∃ (s : Sb) (a : Option Addr) (c : Nat), cs = [.slice a s.length c] ∧ IsBs w.heap.size w s a c := by
  rcases DataW.trod_slice Try.underlying28 h with ⟨rfl, _⟩ | ⟨a, len, cap, elems, rest, m, hm, rfl, _, _, hlc, hcm, hel, hcell, _, _⟩
  · exact ⟨[], none, 0, rfl, ⟨Nat.le_refl _, by simp [maxLen], .inl rfl⟩⟩
  · cases len with
    | zero => exact ⟨[], some a, cap, rfl, ⟨hlc, hcm, .inl rfl⟩⟩
    | succ len =>
      have each : ∀ i, i < len + 1 → ∃ (v : Int) (t : T) (a' : Option Addr) (c : Nat), w.cell? ((a.add (i * 3)).add 0) = some (.int .i64 v) ∧ w.cell? ((a.add (i * 3)).add 1) = some (.int .i64 t.head) ∧ w.cell? ((a.add (i * 3)).add 2) = some (.slice a' t.args.length c) ∧ (Lit.int .i64 v).wf = true ∧ (Lit.int .i64 t.head).wf = true ∧ IsArgs w.heap.size w t.args a' c := by
        intro i hi
        have h1 := hcell i hi
        rw [List.getElem?_eq_getElem (by omega), cellsBind, Option.bind_eq_some_iff] at h1
        obtain ⟨cs, hcs, ht⟩ := h1
        obtain ⟨v, t, a', c, rfl, wf, wf', hA⟩ := trod_bind ht
        refine ⟨v, t, a', c, ?_, ?_, ?_, wf, wf', hA⟩
        · exact mapM_some_get (by simpa [World.cells?] using hcs) 0 0 rfl
        · exact mapM_some_get (by simpa [World.cells?] using hcs) 1 1 rfl
        · exact mapM_some_get (by simpa [World.cells?] using hcs) 2 2 rfl
      obtain ⟨b, o, spot⟩ := a
      have hspot : spot = none := by
        obtain ⟨v, t, a', c, h1, _⟩ := each 0 (by omega)
        cases spot with
        | none => rfl
        | some k => unfold World.cell? at h1; simp [Addr.add] at h1; split at h1 <;> simp at h1
      subst hspot
      simp only [add_none, Nat.add_zero] at each
      have hlt : b < w.heap.size := by
        obtain ⟨v, t, a', c, h1, _⟩ := each 0 (by omega)
        exact lt_of_cell h1
      have hall : ∀ (n o : Nat), (∀ i, i < n → ∃ x : Int × T, IsB w.heap.size w x b (o + i * 3)) → ∃ s : Sb, s.length = n ∧ ∀ (j : Nat) (x : Int × T), s[j]? = some x → IsB w.heap.size w x b (o + j * 3) := by
        intro n
        induction n with
        | zero => intro o _; exact ⟨[], rfl, by simp⟩
        | succ n ih =>
          intro o h
          obtain ⟨z, hz⟩ := h 0 (by omega)
          obtain ⟨zs, hl, hr⟩ := ih (o + 3) (fun i hi => by
            obtain ⟨y, hy⟩ := h (i + 1) (by omega)
            exact ⟨y, by rw [show o + 3 + i * 3 = o + (i + 1) * 3 from by omega]; exact hy⟩)
          refine ⟨z :: zs, by simp [hl], fun j y hj => ?_⟩
          cases j with
          | zero => simp at hj; subst hj; simpa using hz
          | succ j => rw [show o + (j + 1) * 3 = o + 3 + j * 3 from by omega]; exact hr j y (by simpa using hj)
      obtain ⟨s, hl, hr⟩ := hall (len + 1) o (fun i hi => by
        obtain ⟨v, t, a', c, h0, h1, h2, wf, wf', hA⟩ := each i hi
        exact ⟨(v, t), wf, h0, isT_iff.2 ⟨wf', h1, a', c, h2, hA⟩⟩)
      exact ⟨s, some ⟨b, o, none⟩, cap, by rw [hl], ⟨by omega, hcm, .inr ⟨b, o, rfl, hlt, hr⟩⟩⟩

/-- An argument of type []Bind. -/
theorem open_bs {r : Reach} {b0 : Nat} {v : Value} {d : DataW H} {p : List MemPlace} (hv : Value.okWide Try.prog w r b0 28 v) (h : DataW.Trod enc Try.prog w 0 sp hd 28 v d p) :
    ∃ (s : Sb) (a : Option Addr) (c : Nat), v = .slice a s.length c ∧ IsBs w.heap.size w s a c := by
  obtain ⟨a, len, cap, rfl⟩ := okWide_slice Try.underlying28 hv
  obtain ⟨n, hn⟩ := h
  obtain ⟨s, a', c, e, hA⟩ := trod_bs hn
  simp [Value.cells] at e
  obtain ⟨rfl, rfl, rfl⟩ := e
  exact ⟨s, a, cap, rfl, hA⟩
end

end Go.Proofs.Ytleohdddaadbeaa
