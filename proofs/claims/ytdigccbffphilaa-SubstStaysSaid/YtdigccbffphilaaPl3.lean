/- All places of a term. -/
import Derived.Test.YtdigccbffphilaaPl
namespace Go.Proofs.Ytdigccbffphilaa
set_option linter.unusedVariables false
set_option linter.unusedSimpArgs false
open Go.RowKit

theorem mem_alls {ts : List T} {i : Nat} {p : List Int} (h : p ∈ T.alls i ts) : ∃ (k : Nat) (x : T) (p' : List Int), ts[k]? = some x ∧ p = ((i + k : Nat) : Int) :: p' ∧ p' ∈ x.all := by
  induction ts generalizing i with
  | nil => simp [T.alls] at h
  | cons t ts ih =>
    simp only [T.alls, List.mem_append] at h
    rcases h with h | h
    · obtain ⟨p', hp', rfl⟩ := List.mem_map.1 h
      exact ⟨0, t, p', rfl, rfl, hp'⟩
    · obtain ⟨k, x, p', h1, h2, h3⟩ := ih h
      exact ⟨k + 1, x, p', by simpa using h1, by rw [h2]; congr 2; omega, h3⟩
theorem T.all_eq (t : T) : t.all = [] :: T.alls 0 t.args := by cases t; simp [T.all, T.args]
theorem all_at : ∀ (N : Nat) (t : T), t.size ≤ N → ∀ p ∈ t.all, ∃ s, t.at p = some s ∧ ((p = [] ∧ s = t) ∨ (p ≠ [] ∧ s.size < t.size)) := by
  intro N
  induction N with
  | zero => intro t ht; have := T.size_pos t; omega
  | succ N ih =>
    intro t ht p hp
    rw [T.all_eq, List.mem_cons] at hp
    rcases hp with rfl | hp
    · exact ⟨t, rfl, .inl ⟨rfl, rfl⟩⟩
    · obtain ⟨k, x, p', h1, rfl, h3⟩ := mem_alls hp
      have hx := T.size_lt_of_mem h1
      have ht' := T.size_eq t
      obtain ⟨hk, _⟩ := List.getElem?_eq_some_iff.1 h1
      obtain ⟨s, hs, hor⟩ := ih x (by omega) p' h3
      refine ⟨s, ?_, .inr ⟨by simp, ?_⟩⟩
      · simp only [T.at, Nat.zero_add, Int.toNat_natCast, h1, Option.bind_some]
        rw [if_neg (by omega)]; exact hs
      · rcases hor with ⟨_, rfl⟩ | ⟨_, h⟩ <;> omega
mutual
theorem all_nodup : (t : T) → t.all.Nodup
  | .node h ts => by
    simp only [T.all, List.nodup_cons]
    refine ⟨fun hm => ?_, alls_nodup 0 ts⟩
    obtain ⟨_, _, _, _, e, _⟩ := mem_alls hm
    cases e
theorem alls_nodup (i : Nat) : (ts : List T) → (T.alls i ts).Nodup
  | [] => by simp [T.alls]
  | t :: ts => by
    simp only [T.alls]
    rw [List.nodup_append]
    refine ⟨?_, alls_nodup (i + 1) ts, ?_⟩
    · have h1 := all_nodup t
      have : (t.all.map (fun p => (i : Int) :: p)).Nodup := by
        rw [List.nodup_iff_pairwise_ne, List.pairwise_map]
        exact h1.imp (fun hne e => hne (by simpa using e))
      exact this
    · intro a ha b hb e
      subst e
      obtain ⟨p', _, rfl⟩ := List.mem_map.1 ha
      obtain ⟨k, x, p'', _, e, _⟩ := mem_alls hb
      simp at e
      omega
end
theorem allp_nil (t : T) : T.allp [] t = t.all := by rw [T.allp_all]; simp

theorem nodup_ne {α : Type} {l : List α} (h : l.Nodup) {i k : Nat} {x y : α} (hx : l[i]? = some x) (hy : l[k]? = some y) (hne : k < i) : x ≠ y := by
  obtain ⟨h1, e1⟩ := List.getElem?_eq_some_iff.1 hx
  obtain ⟨h2, e2⟩ := List.getElem?_eq_some_iff.1 hy
  intro e
  rw [List.nodup_iff_pairwise_ne, List.pairwise_iff_getElem] at h
  exact h k i h2 h1 hne (by rw [e1, e2, e])

end Go.Proofs.Ytdigccbffphilaa
