/- How clause's own multi tells which clause is greater; plain facts. -/
import Derived.Test.YtbdabdjpgmnejaaGreatQDa
namespace Go.Proofs.YtbdabdjpgmnejaaGreat
set_option linter.unusedVariables false
set_option linter.unusedSimpArgs false
open Go.RowKit

/-- What is left of a row where each of others takes away the first one that is the same. -/
def wiP (a b : List Lt3) : List Lt3 := b.foldl (fun r o => r.eraseP (sameLB o)) a
theorem eraseP_rep (r : List Lt3) (o : Lt3) : repC (r.eraseP (sameLB o)) = (repC r).erase (repL o) := by
  unfold repC
  rw [List.erase_eq_eraseP, List.eraseP_map]
  congr 2
  funext y
  exact sameLB_rep
theorem wiP_count (z : Lt3) : ∀ (b a : List Lt3), (repC (wiP a b)).count z = (repC a).count z - (repC b).count z
  | [], a => by simp [wiP, repC]
  | o :: b, a => by
    show (repC (wiP (a.eraseP (sameLB o)) b)).count z = _
    rw [wiP_count z b, eraseP_rep, List.count_erase]
    show _ = _ - (repL o :: repC b).count z
    rw [List.count_cons]
    omega
theorem wiP_take {a b : List Lt3} {k : Nat} {o : Lt3} (h : b[k]? = some o) : wiP a (b.take (k + 1)) = (wiP a (b.take k)).eraseP (sameLB o) := by
  unfold wiP
  rw [List.take_add_one, h, List.foldl_append]
  rfl
theorem wiP_sub : ∀ (b a : List Lt3), ∀ x ∈ wiP a b, x ∈ a
  | [], _, _, h => h
  | o :: b, a, x, h => List.mem_of_mem_eraseP (wiP_sub b (a.eraseP (sameLB o)) x h)
theorem wiP_length : ∀ (b a : List Lt3), (wiP a b).length ≤ a.length
  | [], _ => Nat.le_refl _
  | o :: b, a => Nat.le_trans (wiP_length b (a.eraseP (sameLB o))) (List.length_eraseP_le)
/-- Is each of the low ones less than some high one? -/
def exC (g : Sg) (x y : List Lt3) : Bool := y.all fun u => x.any fun t => decide (standL g t u = 1)
def muC (g : Sg) (a b : List Lt3) : Int := if (wiP a b).length = 0 ∧ (wiP b a).length = 0 then 0 else if exC g (wiP a b) (wiP b a) then 1 else if exC g (wiP b a) (wiP a b) then -1 else 2
theorem mem_wiP {z : Lt3} {a b : List Lt3} : z ∈ repC (wiP a b) ↔ (repC b).count z < (repC a).count z := by
  rw [← List.count_pos_iff, wiP_count]; omega
theorem wiP_zero {a b : List Lt3} : ((wiP a b).length = 0 ∧ (wiP b a).length = 0) ↔ ∀ z, (repC a).count z = (repC b).count z := by
  constructor
  · rintro ⟨h1, h2⟩ z
    have c1 := wiP_count z b a
    have c2 := wiP_count z a b
    rw [List.eq_nil_of_length_eq_zero h1] at c1
    rw [List.eq_nil_of_length_eq_zero h2] at c2
    simp [repC] at c1 c2
    simp only [repC] at c1 c2 ⊢
    omega
  · intro h
    have e : ∀ (x y : List Lt3), (∀ z, (repC x).count z = (repC y).count z) → (wiP x y).length = 0 := fun x y h => by
      have : repC (wiP x y) = [] := List.eq_nil_iff_forall_not_mem.2 fun z hz => by
        have := mem_wiP.1 hz
        have := h z
        omega
      have := congrArg List.length this
      simpa [repC] using this
    exact ⟨e a b h, e b a (fun z => (h z).symm)⟩
theorem exC_iff {g : Sg} {a b : List Lt3} (h : ¬ ((wiP a b).length = 0 ∧ (wiP b a).length = 0)) : exC g (wiP a b) (wiP b a) = true ↔ GtC g a b := by
  unfold exC GtC gtMs
  rw [List.all_eq_true]
  constructor
  · intro h2
    have hy : ∀ y, (repC a).count y < (repC b).count y → ∃ x, (repC b).count x < (repC a).count x ∧ GtLit g x y := fun y hy => by
      obtain ⟨y0, hy0, rfl⟩ := List.mem_map.1 (mem_wiP.2 hy)
      have := h2 y0 hy0
      rw [List.any_eq_true] at this
      obtain ⟨x, hx, hs⟩ := this
      exact ⟨repL x, mem_wiP.1 (List.mem_map.2 ⟨x, hx, rfl⟩), GtLit.rep.2 (standL_more.1 (of_decide_eq_true hs))⟩
    refine ⟨?_, hy⟩
    by_cases e : (wiP a b).length = 0
    · have e2 : (wiP b a).length ≠ 0 := fun e2 => h ⟨e, e2⟩
      obtain ⟨y, hyy⟩ := List.exists_mem_of_length_pos (Nat.pos_of_ne_zero e2)
      obtain ⟨x, hx, _⟩ := hy _ (mem_wiP.1 (List.mem_map.2 ⟨y, hyy, rfl⟩))
      exact ⟨x, hx⟩
    · obtain ⟨x, hx⟩ := List.exists_mem_of_length_pos (Nat.pos_of_ne_zero e)
      exact ⟨repL x, mem_wiP.1 (List.mem_map.2 ⟨x, hx, rfl⟩)⟩
  · rintro ⟨_, h2⟩ u hu
    obtain ⟨x, hx, hs⟩ := h2 (repL u) (mem_wiP.1 (List.mem_map.2 ⟨u, hu, rfl⟩))
    obtain ⟨x0, hx0, rfl⟩ := List.mem_map.1 (mem_wiP.2 hx)
    rw [List.any_eq_true]
    exact ⟨x0, hx0, decide_eq_true (standL_more.2 (GtLit.rep.1 hs))⟩
theorem muC_eq (g : Sg) (a b : List Lt3) : muC g a b = stC g a b := by
  unfold muC
  by_cases h : (wiP a b).length = 0 ∧ (wiP b a).length = 0
  · rw [if_pos h, stC_zero.2 (wiP_zero.1 h)]
  · rw [if_neg h]
    have h' : ¬ ((wiP b a).length = 0 ∧ (wiP a b).length = 0) := fun e => h ⟨e.2, e.1⟩
    by_cases h1 : exC g (wiP a b) (wiP b a) = true
    · rw [if_pos h1, stC_more.2 ((exC_iff h).1 h1)]
    · rw [if_neg h1]
      by_cases h2 : exC g (wiP b a) (wiP a b) = true
      · rw [if_pos h2, stC_less.2 ((exC_iff h').1 h2)]
      · rw [if_neg h2]
        rcases stC_cases g a b with e | e | e | e
        · exact absurd (wiP_zero.2 (stC_zero.1 e)) h
        · exact absurd ((exC_iff h).2 (stC_more.1 e)) h1
        · exact absurd ((exC_iff h').2 (stC_less.1 e)) h2
        · exact e.symm

end Go.Proofs.YtbdabdjpgmnejaaGreat
