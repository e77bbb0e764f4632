/- The solver's stack of pairs: frames, whose parents are strict parts of one another. -/
import Derived.Test.YtcbjnfdhghhgeaaRo2
namespace Go.Proofs.Ytcbjnfdhghhgeaa
set_option linter.unusedVariables false
set_option linter.unusedSimpArgs false
open Go.RowKit

/-- A strict part. -/
inductive SS : T → T → Prop
  | arg {a b : T} : ¬ b.head < 0 → a ∈ b.args → SS a b
  | step {a b c : T} : SS a c → ¬ b.head < 0 → c ∈ b.args → SS a b
theorem SS.size {a b : T} (h : SS a b) : a.size < b.size := by
  have harg : ∀ {a b : T}, a ∈ b.args → a.size < b.size := fun {a b} h => by
    obtain ⟨i, hi⟩ := List.getElem?_of_mem h
    have := T.size_lt_of_mem hi
    have := T.size_eq b
    omega
  induction h with
  | arg _ h => exact harg h
  | step _ _ h ih => have := harg h; omega
theorem SS.trans {a b c : T} (h : SS a b) (h' : SS b c) : SS a c := by
  induction h' with
  | arg h1 h2 => exact .step h h1 h2
  | step _ h1 h2 ih => exact .step ih h1 h2
theorem SS.sub {a b : T} (h : SS a b) (f : Int → T) : SS (a.sub f) (b.sub f) := by
  have hh : ∀ {b : T}, ¬ b.head < 0 → ¬ (b.sub f).head < 0 := fun {b} h => by rw [T.sub_pos h]; exact h
  have ha : ∀ {a b : T}, ¬ b.head < 0 → a ∈ b.args → a.sub f ∈ (b.sub f).args := fun {a b} h h' => by rw [T.sub_pos h, T.args_node]; exact List.mem_map.2 ⟨a, h', rfl⟩
  induction h with
  | arg h1 h2 => exact .arg (hh h1) (ha h1 h2)
  | step _ h1 h2 ih => exact .step ih (hh h1) (ha h1 h2)

/-- The pairs l stand in frames with the parents F, all put by σ. -/
inductive Stk (P : List T) (σ : Int → T) : List (T × T) → List T → Prop
  | base {l : List (T × T)} : l.length ≤ 1 → Stk P σ l []
  | frame {ps l : List (T × T)} {t : T} {F : List T} : Stk P σ l F → t ∈ P → ps.length ≤ 8 → (∀ p ∈ ps, SS (p.1.sub σ) (t.sub σ)) → (∀ n ∈ F, SS (t.sub σ) (n.sub σ)) → Stk P σ (ps ++ l) (t :: F)
theorem Stk.pop {P : List T} {σ : Int → T} {p : T × T} {l L : List (T × T)} {F : List T} (h : Stk P σ L F) (e : L = p :: l) : ∃ F', Stk P σ l F' ∧ ∀ n ∈ F', SS (p.1.sub σ) (n.sub σ) := by
  induction h with
  | base h => subst e; exact ⟨[], .base (by simp at h; simp [h]), by simp⟩
  | @frame ps l' t F h ht hl hps hF ih =>
    cases ps with
    | nil => exact ih e
    | cons q ps =>
      rw [List.cons_append] at e
      injection e with e1 e2
      subst e1 e2
      refine ⟨t :: F, .frame h ht (by simp at hl; omega) (fun p hp => hps p (by simp [hp])) hF, fun n hn => ?_⟩
      rcases List.mem_cons.1 hn with rfl | hn
      · exact hps q (by simp)
      · exact (hps q (by simp)).trans (hF n hn)
theorem Stk.length {P : List T} {σ : Int → T} {l : List (T × T)} {F : List T} (h : Stk P σ l F) : l.length ≤ 8 * F.length + 1 ∧ (∀ n ∈ F, n ∈ P) ∧ F.Nodup := by
  induction h with
  | base h => exact ⟨by simpa using h, by simp, List.nodup_nil⟩
  | @frame ps l t F h ht hl hps hF ih =>
    refine ⟨by rw [List.length_append, List.length_cons]; omega, fun n hn => ?_, List.nodup_cons.2 ⟨fun hm => ?_, ih.2.2⟩⟩
    · rcases List.mem_cons.1 hn with rfl | hn
      · exact ht
      · exact ih.2.1 n hn
    · have := (hF t hm).size
      omega
theorem nodup_length : ∀ {F P : List T}, F.Nodup → (∀ n ∈ F, n ∈ P) → F.length ≤ P.length
  | [], _, _, _ => Nat.zero_le _
  | t :: F, P, hn, hs => by
    obtain ⟨A, B, e⟩ := List.append_of_mem (hs t (by simp))
    rw [List.nodup_cons] at hn
    have := nodup_length (F := F) (P := A ++ B) hn.2 fun n hm => by
      have := hs n (by simp [hm])
      rw [e, List.mem_append, List.mem_cons] at this
      rw [List.mem_append]
      rcases this with h | rfl | h
      · exact .inl h
      · exact absurd hm hn.1
      · exact .inr h
    rw [e]
    simp only [List.length_append, List.length_cons] at this ⊢
    omega
theorem Stk.short {x y : T} (h60 : x.size + y.size ≤ 60) {σ : Int → T} {l : List (T × T)} {F : List T} (h : Stk (prt x y) σ l F) : l.length ≤ 481 := by
  obtain ⟨h1, h2, h3⟩ := h.length
  have := nodup_length h3 h2
  rw [prt_length] at this
  omega
/-- The stack stands also when more is put. -/
theorem Stk.more {P : List T} {σ σ' u : Int → T} {l : List (T × T)} {F : List T} (hP : ∀ t ∈ P, t.sub σ' = (t.sub σ).sub u) (h : Stk P σ l F) (hl : ∀ p ∈ l, p.1.sub σ' = (p.1.sub σ).sub u) : Stk P σ' l F := by
  induction h with
  | base h => exact .base h
  | @frame ps l t F h ht hl8 hps hF ih =>
    refine .frame (ih fun p hp => hl p (by simp [hp])) ht hl8 (fun p hp => ?_) (fun n hn => ?_)
    · rw [hl p (by simp [hp]), hP t ht]; exact (hps p hp).sub u
    · rw [hP t ht, hP n (h.length.2.1 n hn)]; exact (hF n hn).sub u

end Go.Proofs.Ytcbjnfdhghhgeaa
