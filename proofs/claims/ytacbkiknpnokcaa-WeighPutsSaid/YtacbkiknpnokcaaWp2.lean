/- The weight of a term put: plain facts. -/
import Derived.Test.YtacbkiknpnokcaaWpl
import Derived.Test.YtacbkiknpnokcaaCts
import Derived.Test.YtacbkiknpnokcaaAp0
namespace Go.Proofs.Ytacbkiknpnokcaa
set_option linter.unusedVariables false
set_option linter.unusedSimpArgs false
open Go.RowKit

/-- What is put for a variable that stands in a term is a part of the term put. -/
theorem put_part {g : Sg} (f : Int → T) : ∀ (N : Nat) (t : T), t.size ≤ N → bad (T.subs 1 t) = false → OkT g (t.sub f) → ∀ h ∈ t.hds, h < 0 → OkT g (f (-1 - h)) := by
  intro N
  induction N with
  | zero => intro t ht; have := T.size_pos t; omega
  | succ N ih =>
    intro t ht hb hok h hm hn
    by_cases q : t.head < 0
    · have ha := good_var hb q
      rw [T.hds_eq, ha] at hm
      simp [T.hdsL] at hm
      rw [T.sub_neg q] at hok
      rw [hm]; exact hok
    · rw [T.hds_eq] at hm
      rcases List.mem_cons.1 hm with rfl | hm
      · exact absurd hn q
      · rw [T.sub_pos q] at hok
        have : ∃ s ∈ t.args, h ∈ s.hds := by
          clear hok ht ih hb q
          generalize t.args = ts at hm
          induction ts with
          | nil => simp [T.hdsL] at hm
          | cons s ts ih2 =>
            rcases List.mem_append.1 hm with hm | hm
            · exact ⟨s, List.mem_cons_self .., hm⟩
            · obtain ⟨x, hx, hy⟩ := ih2 hm
              exact ⟨x, List.mem_cons_of_mem _ hx, hy⟩
        obtain ⟨s, hs, hsm⟩ := this
        obtain ⟨k, hk⟩ := List.getElem?_of_mem hs
        refine ih s (by have := size_mem hs; have := T.size_eq t; omega) (good_arg hb hk) (hok.arg ?_) h hsm hn
        simp only [T.args_node]
        exact List.mem_map.2 ⟨s, hs, rfl⟩

/-- How much a head weighs when terms are put. -/
def wf2 (g : Sg) (f : Int → T) (h : Int) : Int := if h < 0 then wtT g (f (-1 - h)) else wo g h
theorem wtL_map {g : Sg} {f : Int → T} {ts : List T} (h : ∀ s ∈ ts, wtT g (s.sub f) = sumA (wf2 g f) s.hds) : wtL g (ts.map (T.sub f)) = sumA (wf2 g f) (T.hdsL ts) := by
  induction ts with
  | nil => rfl
  | cons t ts ih =>
    simp only [List.map_cons, wtL, T.hdsL, sumA_append]
    rw [h t (List.mem_cons_self ..), ih (fun s hs => h s (List.mem_cons_of_mem _ hs))]
theorem wt_put (g : Sg) (f : Int → T) : ∀ (N : Nat) (t : T), t.size ≤ N → bad (T.subs 1 t) = false → wtT g (t.sub f) = sumA (wf2 g f) t.hds := by
  intro N
  induction N with
  | zero => intro t ht; have := T.size_pos t; omega
  | succ N ih =>
    intro t ht hb
    by_cases q : t.head < 0
    · rw [T.sub_neg q, T.hds_eq, good_var hb q]
      simp [sumA, T.hdsL, wf2, q]
    · rw [T.sub_pos q, T.hds_eq, wtT_eq]
      simp only [sumA, T.args_node]
      rw [wtL_map (fun s hs => by
        obtain ⟨k, hk⟩ := List.getElem?_of_mem hs
        exact ih s (by have := size_mem hs; have := T.size_eq t; omega) (good_arg hb hk))]
      simp only [wf2, q, if_false]
      rfl

/-- The sum that the law makes, of the first k variables. -/
def mS (L : List Int) (F : Nat → Int) : Nat → Int
  | 0 => 0
  | k + 1 => mS L F k + ((L.count (-1 - (k : Int)) : Nat) : Int) * F k
theorem mS_cons (F : Nat → Int) (h : Int) (L : List Int) : ∀ k, mS (h :: L) F k = mS L F k + (if h < 0 ∧ -1 - h < k then F (-1 - h).toNat else 0)
  | 0 => by simp [mS]; intro h1 h2; omega
  | k + 1 => by
    rw [mS, mS, mS_cons F h L k, List.count_cons]
    by_cases e : h = -1 - (k : Int)
    · subst e
      have h1 : ¬ (-1 - (k : Int) < 0 ∧ -1 - (-1 - (k : Int)) < (k : Int)) := by omega
      have h2 : (-1 - (k : Int) < 0 ∧ -1 - (-1 - (k : Int)) < ((k + 1 : Nat) : Int)) := by omega
      rw [if_neg h1, if_pos h2, show (-1 - (-1 - (k : Int))).toNat = k from by omega]
      simp only [beq_self_eq_true, if_true]
      rw [Int.natCast_add, Int.add_mul]
      simp
      omega
    · have hne : (h == -1 - (k : Int)) = false := by simpa using e
      rw [hne]
      by_cases q : h < 0 ∧ -1 - h < (k : Int)
      · have h2 : (h < 0 ∧ -1 - h < ((k + 1 : Nat) : Int)) := by omega
        rw [if_pos q, if_pos h2]
        simp only [if_false, Nat.add_zero, Bool.false_eq_true]
        omega
      · have h2 : ¬ (h < 0 ∧ -1 - h < ((k + 1 : Nat) : Int)) := by omega
        rw [if_neg q, if_neg h2]
        simp only [if_false, Nat.add_zero, Bool.false_eq_true, Int.add_zero]
theorem mS_nil (F : Nat → Int) : ∀ k, mS [] F k = 0
  | 0 => rfl
  | k + 1 => by rw [mS, mS_nil F k]; simp
/-- All together: what is put weighs more by that sum. -/
theorem mS_sum (g : Sg) (f : Int → T) (en : Nat) : ∀ (L : List Int), (∀ h ∈ L, h < 0 → -1 - h < en) → sumA (wf2 g f) L = sumA (wo g) L + mS L (fun v => wtT g (f v) - 1) en
  | [], _ => by simp [sumA, mS_nil]
  | h :: L, hl => by
    have ih := mS_sum g f en L (fun x hx => hl x (List.mem_cons_of_mem _ hx))
    rw [mS_cons]
    simp only [sumA, ih]
    by_cases q : h < 0
    · have h1 := hl h (List.mem_cons_self ..) q
      rw [if_pos ⟨q, h1⟩]
      simp only [wf2, wo, q, if_true]
      rw [show ((((-1 - h).toNat : Nat) : Int)) = -1 - h from by omega]
      omega
    · rw [if_neg (fun e => q e.1)]
      simp only [wf2, q, if_false]
      omega
theorem sumA_le {f : Int → Int} : ∀ {L : List Int}, (∀ h ∈ L, f h ≤ 1000) → sumA f L ≤ 1000 * L.length
  | [], _ => by simp [sumA]
  | h :: L, hl => by
    have h1 := sumA_le (L := L) (fun x hx => hl x (List.mem_cons_of_mem _ hx))
    have h2 := hl h (List.mem_cons_self ..)
    simp only [sumA, List.length_cons]; omega
theorem wt_le {g : Sg} {t : T} (hr : rightG g = true) (h : OkT g t) : wtT g t ≤ 400000 := by
  have h1 := sumA_le (f := wo g) (L := t.hds) (fun x hx => (wo_bound hr (h.heads x hx)).2)
  rw [sumA_hds, T.hds_length] at h1
  have := (check_ok h.1).1
  omega
theorem vars_low {t : T} (hb : bad (T.subs 1 t) = false) : ∀ h ∈ t.hds, h < 0 → -1 - h ≤ 255 := by
  have aux : ∀ (N : Nat) (t : T), t.size ≤ N → bad (T.subs 1 t) = false → ∀ h ∈ t.hds, h < 0 → -1 - h ≤ 255 := by
    intro N
    induction N with
    | zero => intro t ht; have := T.size_pos t; omega
    | succ N ih =>
      intro t ht hb h hm hn
      rw [T.hds_eq] at hm
      rcases List.mem_cons.1 hm with rfl | hm
      · have := good_head hb
        simp [okB, hn] at this
        omega
      · have : ∃ s ∈ t.args, h ∈ s.hds := by
          clear ht ih hb
          generalize t.args = ts at hm
          induction ts with
          | nil => simp [T.hdsL] at hm
          | cons s ts ih2 =>
            rcases List.mem_append.1 hm with hm | hm
            · exact ⟨s, List.mem_cons_self .., hm⟩
            · obtain ⟨x, hx, hy⟩ := ih2 hm
              exact ⟨x, List.mem_cons_of_mem _ hx, hy⟩
        obtain ⟨s, hs, hsm⟩ := this
        obtain ⟨k, hk⟩ := List.getElem?_of_mem hs
        exact ih s (by have := size_mem hs; have := T.size_eq t; omega) (good_arg hb hk) h hsm hn
  exact aux t.size t (Nat.le_refl _) hb
theorem mS_bound {L : List Int} {F : Nat → Int} (hL : L.length ≤ 400) : ∀ k, (∀ v : Nat, v < k → L.count (-1 - (v : Int)) ≠ 0 → 0 ≤ F v ∧ F v ≤ 400000) → 0 ≤ mS L F k ∧ mS L F k ≤ k * 160000000
  | 0, _ => by simp [mS]
  | k + 1, h => by
    have ih := mS_bound hL k (fun v hv => h v (by omega))
    rw [mS]
    by_cases q : L.count (-1 - (k : Int)) = 0
    · rw [q]; simp; omega
    · have h1 := h k (by omega) q
      have h2 : L.count (-1 - (k : Int)) ≤ 400 := Nat.le_trans List.count_le_length hL
      have h3 : 0 ≤ ((L.count (-1 - (k : Int)) : Nat) : Int) * F k := Int.mul_nonneg (Int.natCast_nonneg _) h1.1
      have h4 : ((L.count (-1 - (k : Int)) : Nat) : Int) * F k ≤ 400 * F k := Int.mul_le_mul_of_nonneg_right (by omega) h1.1
      omega

end Go.Proofs.Ytacbkiknpnokcaa
