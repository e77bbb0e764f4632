/- Reading clauses out of memory. -/
import Derived.Test.YtbdabdjpgmnejaaLaw9
import Derived.Test.YtbdabdjpgmnejaaQBg
namespace Go.Proofs.Ytbdabdjpgmnejaa
set_option linter.unusedVariables false
set_option linter.unusedSimpArgs false
set_option maxRecDepth 100000
open Go.ChangeShapes Go.WideShapes Go.ChangeAt Go.RowKit Go.Joins
section
variable {H : Type} {enc : TypeId × Value → H} {w : World} {sp : Nat → Bool} {hd : Bool}
theorem trod_cl {n : Nat} {cs : List Value} {x : DataW H × List MemPlace} (h : DataW.trod enc Try.prog w 0 sp hd n 22 cs = some x) : ∃ (P : List LV) (a : Option Addr) (c : Nat), cs = [.slice a P.length c] ∧ IsCl w.heap.size w P a c := by
  rcases DataW.trod_slice Try.underlying22 h with ⟨rfl, _⟩ | ⟨a, len, cap, elems, rest, m, hm, rfl, _, _, hlc, hcm, hel, hcell, _, _⟩
  · exact ⟨[], none, 0, rfl, ⟨Nat.le_refl _, by simp [maxLen], .inl rfl⟩⟩
  · cases len with
    | zero => exact ⟨[], some a, cap, rfl, ⟨hlc, hcm, .inl rfl⟩⟩
    | succ len =>
      have each : ∀ i, i < len + 1 → ∃ y : LV, IsLv w.heap.size w y ∧ w.cell? ((a.add (i * 5)).add 0) = some (.bool y.n) ∧ w.cell? ((a.add (i * 5)).add 1) = some (.int .i64 y.l.head) ∧ w.cell? ((a.add (i * 5)).add 2) = some (.slice y.pa y.l.args.length y.ca) ∧ w.cell? ((a.add (i * 5)).add 3) = some (.int .i64 y.r.head) ∧ w.cell? ((a.add (i * 5)).add 4) = some (.slice y.pb y.r.args.length y.cb) := by
        intro i hi
        have h1 := hcell i hi
        rw [List.getElem?_eq_getElem (by omega), cellsLit, Option.bind_eq_some_iff] at h1
        obtain ⟨cs, hcs, ht⟩ := h1
        obtain ⟨y, rfl, hy⟩ := trod_lit ht
        refine ⟨y, hy, ?_, ?_, ?_, ?_, ?_⟩
        · exact mapM_some_get (by simpa [World.cells?] using hcs) 0 0 rfl
        · exact mapM_some_get (by simpa [World.cells?] using hcs) 1 1 rfl
        · exact mapM_some_get (by simpa [World.cells?] using hcs) 2 2 rfl
        · exact mapM_some_get (by simpa [World.cells?] using hcs) 3 3 rfl
        · exact mapM_some_get (by simpa [World.cells?] using hcs) 4 4 rfl
      obtain ⟨b, o, spot⟩ := a
      have hspot : spot = none := by
        obtain ⟨y, _, h1, _⟩ := each 0 (by omega)
        cases spot with
        | none => rfl
        | some k => unfold World.cell? at h1; simp [Addr.add] at h1; split at h1 <;> simp at h1
      subst hspot
      simp only [add_none, Nat.add_zero] at each
      have hlt : b < w.heap.size := by
        obtain ⟨y, _, h1, _⟩ := each 0 (by omega)
        exact lt_of_cell h1
      have hall : ∀ (n o : Nat), (∀ i, i < n → ∃ y : LV, At5 w b (o + i * 5) y ∧ IsLv w.heap.size w y) → ∃ P : List LV, P.length = n ∧ ∀ (j : Nat) (y : LV), P[j]? = some y → At5 w b (o + j * 5) y ∧ IsLv w.heap.size w y := by
        intro n
        induction n with
        | zero => intro o _; exact ⟨[], rfl, by simp⟩
        | succ n ih =>
          intro o h
          obtain ⟨z, hz⟩ := h 0 (by omega)
          obtain ⟨zs, hl, hr⟩ := ih (o + 5) (fun i hi => by
            obtain ⟨y, hy⟩ := h (i + 1) (by omega)
            exact ⟨y, by rw [show o + 5 + i * 5 = o + (i + 1) * 5 from by omega]; exact hy⟩)
          refine ⟨z :: zs, by simp [hl], fun j y hj => ?_⟩
          cases j with
          | zero => simp at hj; subst hj; simpa using hz
          | succ j => rw [show o + (j + 1) * 5 = o + 5 + j * 5 from by omega]; exact hr j y (by simpa using hj)
      obtain ⟨P, hl, hr⟩ := hall (len + 1) o (fun i hi => by
        obtain ⟨y, h0, h1, h2, h3, h4, h5⟩ := each i hi
        exact ⟨y, ⟨h1, h2, h3, h4, h5⟩, h0⟩)
      exact ⟨P, some ⟨b, o, none⟩, cap, by rw [hl], ⟨by omega, hcm, .inr ⟨b, o, rfl, hlt, hr⟩⟩⟩
/-- An argument of type []Lit. -/
theorem open_cl {r : Reach} {b0 : Nat} {v : Value} {d : DataW H} {p : List MemPlace} (hv : Value.okWide Try.prog w r b0 22 v) (h : DataW.Trod enc Try.prog w 0 sp hd 22 v d p) :
    ∃ (P : List LV) (a : Option Addr) (c : Nat), v = .slice a P.length c ∧ IsCl w.heap.size w P a c := by
  obtain ⟨a, len, cap, rfl⟩ := okWide_slice Try.underlying22 hv
  obtain ⟨n, hn⟩ := h
  obtain ⟨P, a', c, e, hA⟩ := trod_cl hn
  simp [Value.cells] at e
  obtain ⟨rfl, rfl, rfl⟩ := e
  exact ⟨P, a, cap, rfl, hA⟩
end
end Go.Proofs.Ytbdabdjpgmnejaa
