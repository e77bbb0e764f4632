/- Reading slices of numbers out of memory. -/
import Derived.Test.YtleohdddaadbeaaQBo
import Derived.Test.YtleohdddaadbeaaQBc
import Derived.ChangeSlices
namespace Go.Proofs.Ytleohdddaadbeaa
set_option linter.unusedVariables false
set_option linter.unusedSimpArgs false
set_option maxRecDepth 100000
open Go.ChangeShapes Go.WideShapes Go.ChangeAt Go.RowKit Go.Joins

section
variable {H : Type} {enc : TypeId × Value → H} {w : World} {sp : Nat → Bool} {hd : Bool}

theorem trod_is {n : Nat} {cs : List Value} {x : DataW H × List MemPlace} (h : DataW.trod enc Try.prog w 0 sp hd n 48 cs = some x) : ∃ (zs : List Int) (a : Option Addr) (c : Nat), cs = [.slice a zs.length c] ∧ IsIs w.heap.size w zs a c := by
  rcases DataW.trod_slice Try.underlying48 h with ⟨rfl, _⟩ | ⟨a, len, cap, elems, rest, m, hm, rfl, _, _, hlc, hcm, hel, hcell, _, _⟩
  · exact ⟨[], none, 0, rfl, ⟨Nat.le_refl _, by simp [maxLen], .inl rfl⟩⟩
  · cases len with
    | zero => exact ⟨[], some a, cap, rfl, ⟨hlc, hcm, .inl rfl⟩⟩
    | succ len =>
      have each : ∀ i, i < len + 1 → ∃ z : Int, w.cell? ((a.add (i * 1)).add 0) = some (.int .i64 z) := by
        intro i hi
        have h1 := hcell i hi
        rw [List.getElem?_eq_getElem (by omega), cellsInt, Option.bind_eq_some_iff] at h1
        obtain ⟨cs, hcs, ht⟩ := h1
        obtain ⟨k, e0, _, _⟩ := DataW.trod_int Try.underlying3 ht
        subst e0
        refine ⟨k, ?_⟩
        simp [World.cells?, Option.bind_eq_some_iff] at hcs
        simpa using hcs
      obtain ⟨b, o, spot⟩ := a
      have hspot : spot = none := by
        obtain ⟨z, h1⟩ := each 0 (by omega)
        cases spot with
        | none => rfl
        | some k => unfold World.cell? at h1; simp [Addr.add] at h1; split at h1 <;> simp at h1
      subst hspot
      simp only [add_none, Nat.add_zero, Nat.mul_one] at each
      have hlt : b < w.heap.size := by
        obtain ⟨z, h1⟩ := each 0 (by omega)
        exact lt_of_cell h1
      have hall : ∀ (n o : Nat), (∀ i, i < n → ∃ z : Int, w.cell? ⟨b, o + i, none⟩ = some (.int .i64 z)) → ∃ zs : List Int, zs.length = n ∧ ∀ (j : Nat) (z : Int), zs[j]? = some z → w.cell? ⟨b, o + j, none⟩ = some (.int .i64 z) := by
        intro n
        induction n with
        | zero => intro o _; exact ⟨[], rfl, by simp⟩
        | succ n ih =>
          intro o h
          obtain ⟨z, hz⟩ := h 0 (by omega)
          obtain ⟨zs, hl, hr⟩ := ih (o + 1) (fun i hi => by
            obtain ⟨y, hy⟩ := h (i + 1) (by omega)
            exact ⟨y, by rw [show o + 1 + i = o + (i + 1) from by omega]; exact hy⟩)
          refine ⟨z :: zs, by simp [hl], fun j y hj => ?_⟩
          cases j with
          | zero => simp at hj; subst hj; exact hz
          | succ j => rw [show o + (j + 1) = o + 1 + j from by omega]; exact hr j y (by simpa using hj)
      obtain ⟨zs, hl, hr⟩ := hall (len + 1) o each
      exact ⟨zs, some ⟨b, o, none⟩, cap, by rw [hl], ⟨by omega, hcm, .inr ⟨b, o, rfl, hlt, hr⟩⟩⟩

/-- A nil slice has no capacity. -/
theorem is_nil {v : Value} {d : DataW H} {p : List MemPlace} (h : DataW.Trod enc Try.prog w 0 sp hd 48 v d p) {a : Option Addr} {l c : Nat} (e : v = .slice a l c) : a = none → c = 0 := by
  subst e
  rintro rfl
  obtain ⟨n, hn⟩ := h
  rcases DataW.trod_slice Try.underlying48 hn with ⟨e, _⟩ | ⟨a, len, cap, elems, rest, m, hm, e, _⟩
  · simp [Value.cells] at e; exact e.2
  · simp [Value.cells] at e

/-- An argument of type []int. -/
theorem open_is {r : Reach} {b0 : Nat} {v : Value} {d : DataW H} {p : List MemPlace} (hv : Value.okWide Try.prog w r b0 48 v) (h : DataW.Trod enc Try.prog w 0 sp hd 48 v d p) :
    ∃ (zs : List Int) (a : Option Addr) (c : Nat), v = .slice a zs.length c ∧ IsIs w.heap.size w zs a c := by
  obtain ⟨a, len, cap, rfl⟩ := okWide_slice Try.underlying48 hv
  obtain ⟨n, hn⟩ := h
  obtain ⟨zs, a', c, e, hA⟩ := trod_is hn
  simp [Value.cells] at e
  obtain ⟨rfl, rfl, rfl⟩ := e
  exact ⟨zs, a, cap, rfl, hA⟩
end

end Go.Proofs.Ytleohdddaadbeaa
