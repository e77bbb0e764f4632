/- Clauses tidied; plain facts. -/
import Derived.Test.YtbdabdjpgmnejaaGreatQDa
namespace Go.Proofs.YtbdabdjpgmnejaaGreat
set_option linter.unusedVariables false
set_option linter.unusedSimpArgs false
open Go.RowKit

/-- Says a literal nothing? -/
def voidL (x : Lt3) : Bool := x.neg && sameB x.l x.r
def dropL (out : List Lt3) (x : Lt3) : Bool := voidL x || out.any (fun y => sameLB y x)
def tidS (out : List Lt3) (x : Lt3) : List Lt3 := if dropL out x then out else out ++ [x]
def tidy (c : List Lt3) : List Lt3 := c.foldl tidS []
theorem tidy_snoc {c : List Lt3} {k : Nat} {x : Lt3} (h : c[k]? = some x) : tidy (c.take (k + 1)) = tidS (tidy (c.take k)) x := by
  unfold tidy
  rw [List.take_add_one, h, List.foldl_append]; rfl
theorem tidS_pre (out : List Lt3) (x : Lt3) : ∃ r, tidS out x = out ++ r := by
  unfold tidS
  split
  · exact ⟨[], by simp⟩
  · exact ⟨[x], rfl⟩
theorem fold_pre : ∀ (c out : List Lt3), ∃ r, c.foldl tidS out = out ++ r
  | [], out => ⟨[], by simp⟩
  | x :: c, out => by
    obtain ⟨r, hr⟩ := tidS_pre out x
    obtain ⟨s, hs⟩ := fold_pre c (tidS out x)
    exact ⟨r ++ s, by rw [List.foldl_cons, hs, hr, List.append_assoc]⟩
theorem tidy_pre (c : List Lt3) (k : Nat) : ∃ r, tidy c = tidy (c.take k) ++ r := by
  obtain ⟨r, hr⟩ := fold_pre (c.drop k) (tidy (c.take k))
  refine ⟨r, ?_⟩
  rw [← hr]
  unfold tidy
  rw [← List.foldl_append, List.take_append_drop]
/-- No two the same, none that says nothing. -/
structure TidyOk (out : List Lt3) : Prop where
  dif : ∀ (i j : Nat) (x y : Lt3), i < j → out[i]? = some x → out[j]? = some y → sameLB x y = false
  say : ∀ x ∈ out, voidL x = false
theorem TidyOk.step {out : List Lt3} (h : TidyOk out) (x : Lt3) : TidyOk (tidS out x) := by
  unfold tidS
  by_cases hd : dropL out x = true
  · rw [if_pos hd]; exact h
  · rw [if_neg hd]
    unfold dropL at hd
    rw [Bool.not_eq_true, Bool.or_eq_false_iff, List.any_eq_false] at hd
    obtain ⟨h1, h2⟩ := hd
    refine ⟨fun i j u v hij hu hv => ?_, fun u hu => ?_⟩
    · by_cases hj : j < out.length
      · rw [List.getElem?_append_left hj] at hv
        rw [List.getElem?_append_left (by omega)] at hu
        exact h.dif i j u v hij hu hv
      · have hjl : j = out.length := by
          have := (List.getElem?_eq_some_iff.1 hv).1
          simp at this; omega
        subst hjl
        rw [List.getElem?_append_left (by omega)] at hu
        simp at hv
        subst hv
        have := h2 u (List.mem_of_getElem? hu)
        simpa using this
    · rcases List.mem_append.1 hu with hu | hu
      · exact h.say u hu
      · simp at hu; subst hu; exact h1
theorem fold_ok : ∀ (c : List Lt3) {out : List Lt3}, TidyOk out → TidyOk (c.foldl tidS out)
  | [], _, h => h
  | x :: c, out, h => by rw [List.foldl_cons]; exact fold_ok c (h.step x)
theorem tidy_ok (c : List Lt3) : TidyOk (tidy c) := fold_ok c ⟨fun i j x y _ h => by simp at h, by simp⟩
theorem fold_sub : ∀ (c out : List Lt3), ∀ x ∈ c.foldl tidS out, x ∈ out ∨ x ∈ c
  | [], _, x, h => .inl h
  | y :: c, out, x, h => by
    rw [List.foldl_cons] at h
    rcases fold_sub c _ x h with h | h
    · unfold tidS at h
      split at h
      · exact .inl h
      · rcases List.mem_append.1 h with h | h
        · exact .inl h
        · simp at h; subst h; exact .inr (List.mem_cons_self ..)
    · exact .inr (List.mem_cons_of_mem _ h)
theorem tidy_sub {c : List Lt3} {x : Lt3} (h : x ∈ tidy c) : x ∈ c := by
  rcases fold_sub c [] x h with h | h
  · cases h
  · exact h
/-- What is tidy stays. -/
theorem tidy_self {c : List Lt3} (h : TidyOk c) : tidy c = c := by
  suffices ∀ k, k ≤ c.length → tidy (c.take k) = c.take k by
    have := this c.length (Nat.le_refl _)
    rwa [List.take_length] at this
  intro k
  induction k with
  | zero => intro _; rfl
  | succ k ih =>
    intro hk
    have hx : c[k]? = some c[k] := List.getElem?_eq_getElem (by omega)
    rw [tidy_snoc hx, ih (by omega), List.take_add_one, hx]
    unfold tidS
    rw [if_neg]
    · rfl
    · unfold dropL
      rw [Bool.not_eq_true, Bool.or_eq_false_iff, List.any_eq_false]
      refine ⟨h.say _ (List.mem_of_getElem? hx), fun y hy => ?_⟩
      obtain ⟨i, hi⟩ := List.getElem?_of_mem hy
      have hik : i < k := by
        have := (List.getElem?_eq_some_iff.1 hi).1
        simp at this; omega
      rw [List.getElem?_take_of_lt hik] at hi
      simpa using h.dif i k y _ hik hi hx
theorem tidy_twice (c : List Lt3) : tidy (tidy c) = tidy c := tidy_self (tidy_ok c)
/-- One that is kept stands at its place; one that is dropped doesn't. -/
theorem tidy_kept {c : List Lt3} {k : Nat} {x : Lt3} (hx : c[k]? = some x) (h : dropL (tidy (c.take k)) x = false) : (tidy c)[(tidy (c.take k)).length]? = some x ∧ tidy (c.take (k + 1)) = tidy (c.take k) ++ [x] := by
  have e : tidy (c.take (k + 1)) = tidy (c.take k) ++ [x] := by
    rw [tidy_snoc hx]; unfold tidS; rw [if_neg (by rw [h]; decide)]
  refine ⟨?_, e⟩
  obtain ⟨r, hr⟩ := tidy_pre c (k + 1)
  rw [hr, e, List.append_assoc, List.getElem?_append_right (Nat.le_refl _)]
  simp
theorem tidy_gone {c : List Lt3} {k : Nat} {x : Lt3} (hx : c[k]? = some x) (h : dropL (tidy (c.take k)) x = true) : (tidy c)[(tidy (c.take k)).length]? ≠ some x ∧ tidy (c.take (k + 1)) = tidy (c.take k) := by
  have e : tidy (c.take (k + 1)) = tidy (c.take k) := by
    rw [tidy_snoc hx]; unfold tidS; rw [if_pos h]
  refine ⟨fun hh => ?_, e⟩
  have ok := tidy_ok c
  unfold dropL at h
  rw [Bool.or_eq_true, List.any_eq_true] at h
  rcases h with h | ⟨y, hy, h⟩
  · rw [ok.say x (List.mem_of_getElem? hh)] at h; cases h
  · obtain ⟨i, hi⟩ := List.getElem?_of_mem hy
    have hil := (List.getElem?_eq_some_iff.1 hi).1
    obtain ⟨r, hr⟩ := tidy_pre c k
    have hi' : (tidy c)[i]? = some y := by rw [hr, List.getElem?_append_left hil]; exact hi
    rw [ok.dif i _ y x hil hi' hh] at h
    cases h

end Go.Proofs.YtbdabdjpgmnejaaGreat
