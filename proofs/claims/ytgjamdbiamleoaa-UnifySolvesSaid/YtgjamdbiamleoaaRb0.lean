/- Rb0: of RCk, the plain lemmas on depth and on bad subterms. -/
import Derived.Test.YtgjamdbiamleoaaCheck
namespace Go.Proofs.Ytgjamdbiamleoaa
set_option linter.unusedVariables false
set_option linter.unusedSimpArgs false
open Go.RowKit

theorem T.depth_eq (t : T) : t.depth = 1 + T.depths t.args := by cases t; simp [T.depth, T.args]; omega
theorem T.depths_append (a b : List T) : T.depths (a ++ b) = max (T.depths a) (T.depths b) := by
  induction a with
  | nil => simp [T.depths]
  | cons t ts ih => simp only [List.cons_append, T.depths, ih]; omega
theorem T.depths_take {ts : List T} {i : Nat} {t : T} (h : ts[i]? = some t) : T.depths (ts.take (i + 1)) = max (T.depths (ts.take i)) t.depth := by
  obtain ⟨hi, e⟩ := List.getElem?_eq_some_iff.1 h
  rw [List.take_succ_eq_append_getElem hi, T.depths_append, e]; simp [T.depths]
mutual
theorem T.depth_le_size : (t : T) → t.depth ≤ t.size
  | .node h ts => by simp only [T.depth, T.size]; have := T.depths_le_sizes ts; omega
theorem T.depths_le_sizes : (ts : List T) → T.depths ts ≤ T.sizes ts
  | [] => by simp [T.depths, T.sizes]
  | t :: ts => by simp only [T.depths, T.sizes]; have := T.depth_le_size t; have := T.depths_le_sizes ts; omega
end

theorem bad_eq (t : T) : bad (T.subs 1 t) = (!okB t.head t.args.length || bad (T.subss 2 t.args)) := by rw [T.subs_eq]; rfl
mutual
theorem bad_level (l l' : Nat) : (t : T) → bad (T.subs l t) = bad (T.subs l' t)
  | .node h ts => by
    have := bads_level (l + 1) (l' + 1) ts
    simp only [bad, T.subs, List.any_cons] at this ⊢
    rw [this]
theorem bads_level (l l' : Nat) : (ts : List T) → bad (T.subss l ts) = bad (T.subss l' ts)
  | [] => rfl
  | t :: ts => by
    have h1 := bad_level l l' t
    have h2 := bads_level l l' ts
    simp only [bad, T.subss, List.any_append] at h1 h2 ⊢
    rw [h1, h2]
end
theorem bads_take {ts : List T} {i : Nat} {t : T} (h : ts[i]? = some t) : bad (T.subss 2 (ts.take (i + 1))) = (bad (T.subss 2 (ts.take i)) || bad (T.subs 1 t)) := by
  obtain ⟨hi, e⟩ := List.getElem?_eq_some_iff.1 h
  have happ : ∀ (a b : List T), bad (T.subss 2 (a ++ b)) = (bad (T.subss 2 a) || bad (T.subss 2 b)) := by
    intro a b
    induction a with
    | nil => simp [T.subss, bad]
    | cons t ts ih => simp only [List.cons_append, T.subss, bad, List.any_append] at ih ⊢; rw [ih, Bool.or_assoc]
  rw [List.take_succ_eq_append_getElem hi, happ, e]
  congr 1
  rw [bad_level 1 2 t]
  simp [T.subss]
theorem bads_mem {ts : List T} {i : Nat} {t : T} (h : ts[i]? = some t) (hb : bad (T.subs 1 t) = true) : bad (T.subss 2 ts) = true := by
  have h1 := bads_take h
  rw [hb, Bool.or_true] at h1
  have happ : ∀ (a b : List T), bad (T.subss 2 a) = true → bad (T.subss 2 (a ++ b)) = true := by
    intro a b
    induction a with
    | nil => simp [T.subss, bad]
    | cons t ts ih =>
      simp only [List.cons_append, T.subss, bad, List.any_append, Bool.or_eq_true] at ih ⊢
      rintro (h | h)
      · exact .inl h
      · exact .inr (ih h)
  have := happ _ (ts.drop (i + 1)) h1
  rwa [List.take_append_drop] at this

theorem good_arg {t s : T} {k : Nat} (h : bad (T.subs 1 t) = false) (hs : t.args[k]? = some s) : bad (T.subs 1 s) = false := by
  rw [bad_eq, Bool.or_eq_false_iff] at h
  cases hb : bad (T.subs 1 s)
  · rfl
  · have := bads_mem hs hb
    rw [h.2] at this
    cases this
theorem good_head {t : T} (h : bad (T.subs 1 t) = false) : okB t.head t.args.length = true := by
  rw [bad_eq, Bool.or_eq_false_iff] at h
  simpa using h.1
theorem good_var {t : T} (h : bad (T.subs 1 t) = false) (hn : t.head < 0) : t.args = [] := by
  have := good_head h
  simp [okB, hn] at this
  exact this.1

theorem check_ok {t : T} (h : t.check = 0) : t.size ≤ 400 ∧ t.depth ≤ 40 ∧ bad (T.subs 1 t) = false := by
  unfold T.check at h
  by_cases q1 : 400 < t.size
  · rw [if_pos q1] at h; cases h
  · rw [if_neg q1] at h
    by_cases q2 : 40 < t.depth
    · rw [if_pos q2] at h; cases h
    · rw [if_neg q2] at h
      cases hb : bad (T.subs 1 t)
      · exact ⟨by omega, by omega, rfl⟩
      · rw [hb] at h; cases h

end Go.Proofs.Ytgjamdbiamleoaa
