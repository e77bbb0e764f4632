/- Weights of parts and of terms put: plain facts. -/
import Derived.Test.YtacbkiknpnokcaaWg
namespace Go.Proofs.Ytacbkiknpnokcaa
set_option linter.unusedVariables false
set_option linter.unusedSimpArgs false
open Go.RowKit

theorem check_of {t : T} (h1 : t.size ≤ 400) (h2 : t.depth ≤ 40) (h3 : bad (T.subs 1 t) = false) : t.check = 0 := by
  unfold T.check
  rw [if_neg (by omega), if_neg (by omega), h3]; rfl
theorem depth_mem : ∀ {ts : List T} {s : T}, s ∈ ts → s.depth ≤ T.depths ts
  | t :: ts, s, h => by
    simp only [T.depths]
    rcases List.mem_cons.1 h with rfl | h
    · omega
    · have := depth_mem h; omega
theorem size_mem : ∀ {ts : List T} {s : T}, s ∈ ts → s.size ≤ T.sizes ts
  | t :: ts, s, h => by
    simp only [T.sizes]
    rcases List.mem_cons.1 h with rfl | h
    · omega
    · have := size_mem h; omega
/-- What Term asks of a term, when the signature is right. -/
def OkT (g : Sg) (t : T) : Prop := t.check = 0 ∧ fitsT g t = true ∧ predL g t.args = false
theorem okT_iff {g : Sg} {t : T} (hr : rightG g = true) : errT g t = 0 ↔ OkT g t := by
  constructor
  · intro h; obtain ⟨_, h2, h3, h4⟩ := errT_ok h; exact ⟨h2, h3, h4⟩
  · rintro ⟨h2, h3, h4⟩
    unfold errT
    rw [if_pos hr, if_pos h2, if_pos h3, h4]; rfl
theorem OkT.arg {g : Sg} {t s : T} (h : OkT g t) (hs : s ∈ t.args) : OkT g s := by
  obtain ⟨h1, h2, h3⟩ := h
  obtain ⟨c1, c2, c3⟩ := check_ok h1
  obtain ⟨f1, f2⟩ := fits_args h2 c3 s hs
  refine ⟨check_of (by have := size_mem hs; have := T.size_eq t; omega) (by have := depth_mem hs; have := T.depth_eq t; omega) f2, f1, ?_⟩
  rw [predL_any, List.any_eq_false] at h3
  have := h3 s hs
  rw [predT_eq] at this
  simp only [Bool.or_eq_true, not_or, Bool.not_eq_true] at this
  exact this.2
theorem OkT.heads {g : Sg} {t : T} (h : OkT g t) : ∀ x ∈ t.hds, inS g x := fits_heads t h.2.1 (check_ok h.1).2.2
theorem sumA_nonneg {f : Int → Int} : ∀ {L : List Int}, (∀ h ∈ L, 0 ≤ f h) → 0 ≤ sumA f L
  | [], _ => by simp [sumA]
  | h :: L, hl => by
    have h1 := sumA_nonneg (L := L) (fun x hx => hl x (List.mem_cons_of_mem _ hx))
    have h2 := hl h (List.mem_cons_self ..)
    simp only [sumA]; omega
theorem hds_mem {ts : List T} {s : T} (h : s ∈ ts) : ∀ x ∈ s.hds, x ∈ T.hdsL ts := by
  induction ts with
  | nil => simp at h
  | cons t ts ih =>
    intro x hx
    simp only [T.hdsL, List.mem_append]
    rcases List.mem_cons.1 h with rfl | h
    · exact .inl hx
    · exact .inr (ih h x hx)
theorem wtL_mem {g : Sg} {ts : List T} {s : T} (h : s ∈ ts) (hp : ∀ x ∈ T.hdsL ts, 0 ≤ wo g x) : wtT g s ≤ wtL g ts := by
  induction ts with
  | nil => simp at h
  | cons t ts ih =>
    simp only [wtL]
    have h1 : 0 ≤ wtL g ts := by rw [← sumA_hdsL]; exact sumA_nonneg (fun x hx => hp x (by simp [T.hdsL, hx]))
    have h2 : 0 ≤ wtT g t := by rw [← sumA_hds]; exact sumA_nonneg (fun x hx => hp x (by simp [T.hdsL, hx]))
    rcases List.mem_cons.1 h with rfl | h
    · omega
    · have := ih h (fun x hx => hp x (by simp [T.hdsL, hx])); omega
theorem wt_pos {g : Sg} {t : T} (hr : rightG g = true) (h : OkT g t) : 1 ≤ wtT g t := by
  have hh := h.heads
  rw [wtT_eq]
  have h1 := (wo_bound hr (hh t.head (by rw [T.hds_eq]; simp))).1
  have h2 : 0 ≤ wtL g t.args := by
    rw [← sumA_hdsL]
    exact sumA_nonneg (fun x hx => by have := (wo_bound hr (hh x (by rw [T.hds_eq]; simp [hx]))).1; omega)
  omega
theorem wt_arg {g : Sg} {t s : T} (hr : rightG g = true) (h : OkT g t) (hs : s ∈ t.args) : wtT g s < wtT g t := by
  have hh := h.heads
  rw [wtT_eq g t]
  have h1 := (wo_bound hr (hh t.head (by rw [T.hds_eq]; simp))).1
  have h2 := wtL_mem hs (fun x hx => by have := (wo_bound hr (hh x (by rw [T.hds_eq]; simp [hx]))).1; omega) (g := g)
  omega
/-- A part: right, and lighter. -/
theorem part_ok {g : Sg} (hr : rightG g = true) : ∀ {p : List Int} {t u : T}, OkT g t → t.at p = some u → OkT g u ∧ wtT g u ≤ wtT g t ∧ (p ≠ [] → wtT g u < wtT g t)
  | [], t, u, h, hp => by
    simp [T.at] at hp; subst hp
    exact ⟨h, Int.le_refl _, fun e => absurd rfl e⟩
  | i :: p, t, u, h, hp => by
    simp only [T.at] at hp
    split at hp
    · cases hp
    · cases hx : t.args[i.toNat]? with
      | none => rw [hx] at hp; cases hp
      | some x =>
        rw [hx] at hp
        have hm := List.mem_of_getElem? hx
        obtain ⟨h1, h2, _⟩ := part_ok hr (h.arg hm) hp
        have h3 := wt_arg hr h hm
        exact ⟨h1, by omega, fun _ => by omega⟩

end Go.Proofs.Ytacbkiknpnokcaa
