/- Reading signatures out of memory. -/
import Derived.Test.YtacbkiknpnokcaaLaw
import Derived.Test.YtacbkiknpnokcaaSg
import Derived.ChangeMaps5
namespace Go.Proofs.Ytacbkiknpnokcaa
set_option linter.unusedVariables false
set_option linter.unusedSimpArgs false
set_option maxRecDepth 100000
open Go.ChangeShapes Go.WideShapes Go.ChangeAt Go.RowKit Go.Joins

theorem cellsSym : Try.prog.cellsOf 47 = 4 := by kernel_rfl
theorem cellsStr : Try.prog.cellsOf 9 = 1 := by kernel_rfl
theorem cellsBool : Try.prog.cellsOf 4 = 1 := by kernel_rfl

section
variable {H : Type} {enc : TypeId × Value → H} {w : World} {sp : Nat → Bool} {hd : Bool}

theorem trod_sym {n : Nat} {cs : List Value} {x : DataW H × List MemPlace} (h : DataW.trod enc Try.prog w 0 sp hd n 47 cs = some x) :
    ∃ y : Sy, cs = y.cells ∧ y.wf := by
  obtain ⟨xs, m, hm, _, hl, hxs, hf⟩ := DataW.trod_struct Try.underlying47 h
  rw [cellsSym] at hl
  match cs, hl with
  | [c0, c1, c2, c3], _ =>
    match xs, hxs with
    | [y0, y1, y2, y3], _ =>
      have h0 := hf 0 _ rfl
      have h1 := hf 1 _ rfl
      have h2 := hf 2 _ rfl
      have h3 := hf 3 _ rfl
      simp [cellsInt, cellsStr, cellsBool] at h0 h1 h2 h3
      obtain ⟨s, e0, _, ws⟩ := DataW.trod_string Try.underlying9 h0
      obtain ⟨k, e1, _, wf1⟩ := DataW.trod_int Try.underlying3 h1
      obtain ⟨d, e2, _, wf2⟩ := DataW.trod_int Try.underlying3 h2
      obtain ⟨t, e3, _⟩ := DataW.trod_bool Try.underlying4 h3
      simp at e0 e1 e2 e3
      subst e0
      subst e1
      subst e2
      subst e3
      exact ⟨⟨s, k, d, t⟩, rfl, ws, wf1, wf2⟩

theorem trod_syms {n : Nat} {cs : List Value} {x : DataW H × List MemPlace} (h : DataW.trod enc Try.prog w 0 sp hd n 22 cs = some x) : ∃ (g : Sg) (a : Option Addr) (c : Nat), cs = [.slice a g.length c] ∧ IsSg w.heap.size w g a c := by
  rcases DataW.trod_slice Try.underlying22 h with ⟨rfl, _⟩ | ⟨a, len, cap, elems, rest, m, hm, rfl, _, _, hlc, hcm, hel, hcell, _, _⟩
  · exact ⟨[], none, 0, rfl, ⟨Nat.le_refl _, by simp [maxLen], .inl rfl⟩⟩
  · cases len with
    | zero => exact ⟨[], some a, cap, rfl, ⟨hlc, hcm, .inl rfl⟩⟩
    | succ len =>
      have each : ∀ i, i < len + 1 → ∃ y : Sy, y.wf ∧ w.cell? ((a.add (i * 4)).add 0) = some (.string y.name) ∧ w.cell? ((a.add (i * 4)).add 1) = some (.int .i64 y.ar) ∧ w.cell? ((a.add (i * 4)).add 2) = some (.int .i64 y.wt) ∧ w.cell? ((a.add (i * 4)).add 3) = some (.bool y.tr) := by
        intro i hi
        have h1 := hcell i hi
        rw [List.getElem?_eq_getElem (by omega), cellsSym, Option.bind_eq_some_iff] at h1
        obtain ⟨cs, hcs, ht⟩ := h1
        obtain ⟨y, rfl, wf⟩ := trod_sym ht
        refine ⟨y, wf, ?_, ?_, ?_, ?_⟩
        · exact mapM_some_get (by simpa [World.cells?] using hcs) 0 0 rfl
        · exact mapM_some_get (by simpa [World.cells?] using hcs) 1 1 rfl
        · exact mapM_some_get (by simpa [World.cells?] using hcs) 2 2 rfl
        · exact mapM_some_get (by simpa [World.cells?] using hcs) 3 3 rfl
      obtain ⟨b, o, spot⟩ := a
      have hspot : spot = none := by
        obtain ⟨y, _, h1, _⟩ := each 0 (by omega)
        cases spot with
        | none => rfl
        | some k => unfold World.cell? at h1; simp [Addr.add] at h1; split at h1 <;> simp at h1
      subst hspot
      simp only [add_none, Nat.add_zero] at each
      have hlt : b < w.heap.size := by
        obtain ⟨y, _, h1, _⟩ := each 0 (by omega)
        exact lt_of_cell h1
      have hall : ∀ (n o : Nat), (∀ i, i < n → ∃ y : Sy, IsSy w y b (o + i * 4)) → ∃ g : Sg, g.length = n ∧ ∀ (j : Nat) (y : Sy), g[j]? = some y → IsSy w y b (o + j * 4) := by
        intro n
        induction n with
        | zero => intro o _; exact ⟨[], rfl, by simp⟩
        | succ n ih =>
          intro o h
          obtain ⟨z, hz⟩ := h 0 (by omega)
          obtain ⟨zs, hl, hr⟩ := ih (o + 4) (fun i hi => by
            obtain ⟨y, hy⟩ := h (i + 1) (by omega)
            exact ⟨y, by rw [show o + 4 + i * 4 = o + (i + 1) * 4 from by omega]; exact hy⟩)
          refine ⟨z :: zs, by simp [hl], fun j y hj => ?_⟩
          cases j with
          | zero => simp at hj; subst hj; simpa using hz
          | succ j => rw [show o + (j + 1) * 4 = o + 4 + j * 4 from by omega]; exact hr j y (by simpa using hj)
      obtain ⟨g, hl, hr⟩ := hall (len + 1) o each
      exact ⟨g, some ⟨b, o, none⟩, cap, by rw [hl], ⟨by omega, hcm, .inr ⟨b, o, rfl, hlt, hr⟩⟩⟩

/-- An argument of type []Sym. -/
theorem open_sg {r : Reach} {b0 : Nat} {v : Value} {d : DataW H} {p : List MemPlace} (hv : Value.okWide Try.prog w r b0 22 v) (h : DataW.Trod enc Try.prog w 0 sp hd 22 v d p) :
    ∃ (g : Sg) (a : Option Addr) (c : Nat), v = .slice a g.length c ∧ IsSg w.heap.size w g a c := by
  obtain ⟨a, len, cap, rfl⟩ := okWide_slice Try.underlying22 hv
  obtain ⟨n, hn⟩ := h
  obtain ⟨g, a', c, e, hA⟩ := trod_syms hn
  simp [Value.cells] at e
  obtain ⟨rfl, rfl, rfl⟩ := e
  exact ⟨g, a, cap, rfl, hA⟩
end

end Go.Proofs.Ytacbkiknpnokcaa
