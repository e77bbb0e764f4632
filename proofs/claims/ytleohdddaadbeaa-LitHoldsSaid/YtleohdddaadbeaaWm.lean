/- Worlds of few things in memory; plain definitions. -/
import Derived.Test.YtleohdddaadbeaaQBd
namespace Go.Proofs.Ytleohdddaadbeaa
set_option linter.unusedVariables false
set_option linter.unusedSimpArgs false
open Go.RowKit

/-- Rows of numbers in memory. -/
def IsRs (n₀ : Nat) (W : World) (rs : List (List Int)) (a : Option Addr) (c : Nat) : Prop :=
  rs.length ≤ c ∧ c ≤ maxLen ∧ (rs = [] ∨ ∃ b o, a = some ⟨b, o, none⟩ ∧ b < n₀ ∧ ∀ (j : Nat) (x : List Int), rs[j]? = some x → ∃ a' c', W.cell? ⟨b, o + j, none⟩ = some (.slice a' x.length c') ∧ IsIs n₀ W x a' c')
theorem IsRs.below {n₀ : Nat} {w w' : World} {rs : List (List Int)} {a : Option Addr} {c : Nat} (h : IsRs n₀ w rs a c) (hb : Below n₀ w w') : IsRs n₀ w' rs a c := by
  obtain ⟨h1, h2, h3⟩ := h
  refine ⟨h1, h2, ?_⟩
  rcases h3 with h3 | ⟨b, o, h4, h5, h6⟩
  · exact .inl h3
  · refine .inr ⟨b, o, h4, h5, fun j x hx => ?_⟩
    obtain ⟨a', c', p0, p1⟩ := h6 j x hx
    exact ⟨a', c', (hb.cell (p := ⟨b, _, none⟩) h5).trans p0, p1.below hb⟩
theorem IsRs.mono {n₀ n₁ : Nat} {w : World} {rs : List (List Int)} {a : Option Addr} {c : Nat} (h : IsRs n₀ w rs a c) (hn : n₀ ≤ n₁) : IsRs n₁ w rs a c := by
  obtain ⟨h1, h2, h3⟩ := h
  refine ⟨h1, h2, ?_⟩
  rcases h3 with h3 | ⟨b, o, h4, h5, h6⟩
  · exact .inl h3
  · refine .inr ⟨b, o, h4, by omega, fun j x hx => ?_⟩
    obtain ⟨a', c', p0, p1⟩ := h6 j x hx
    exact ⟨a', c', p0, p1.mono hn⟩
theorem IsRs.elem {n₀ : Nat} {w : World} {rs : List (List Int)} {a : Option Addr} {c : Nat} (h : IsRs n₀ w rs a c) {i : Nat} (hi : i < rs.length) :
    ∃ (b o : Nat) (x : List Int) (a' : Option Addr) (c' : Nat), a = some ⟨b, o, none⟩ ∧ b < n₀ ∧ rs[i]? = some x ∧ w.cell? ⟨b, o + i, none⟩ = some (.slice a' x.length c') ∧ IsIs n₀ w x a' c' := by
  obtain ⟨_, _, h3⟩ := h
  rcases h3 with rfl | ⟨b, o, rfl, h4, h5⟩
  · simp at hi
  · obtain ⟨a', c', p0, p1⟩ := h5 i _ (List.getElem?_eq_getElem hi)
    exact ⟨b, o, rs[i], a', c', rfl, h4, List.getElem?_eq_getElem hi, p0, p1⟩

/-- A world of few things: how many, and the row of each symbol. -/
structure Ip where
  size : Int
  rows : List (List Int)

end Go.Proofs.Ytleohdddaadbeaa
