/- How large a term can grow when the solver has put its substitution: every part of it is a part of the input, put. -/
import Derived.Test.YtcbjnfdhghhgeaaRob
namespace Go.Proofs.Ytcbjnfdhghhgeaa
set_option linter.unusedVariables false
set_option linter.unusedSimpArgs false
open Go.RowKit

/-- The parts of the input. -/
def prt (x y : T) : List T := (T.subs 1 x).map Prod.snd ++ (T.subs 1 y).map Prod.snd
theorem prt_length (x y : T) : (prt x y).length = x.size + y.size := by simp [prt, T.subs_length]
mutual
theorem subs_args (l l' : Nat) : (t : T) → ∀ q ∈ T.subs l t, ∀ s ∈ q.2.args, ∃ q' ∈ T.subs l t, q'.2 = s
  | .node h ts => by
    intro q hq s hs
    simp only [T.subs, List.mem_cons] at hq ⊢
    rcases hq with rfl | hq
    · obtain ⟨q', h1, h2⟩ := subss_self (l + 1) ts s hs
      exact ⟨q', .inr h1, h2⟩
    · obtain ⟨q', h1, h2⟩ := subss_args (l + 1) l' ts q hq s hs
      exact ⟨q', .inr h1, h2⟩
theorem subss_args (l l' : Nat) : (ts : List T) → ∀ q ∈ T.subss l ts, ∀ s ∈ q.2.args, ∃ q' ∈ T.subss l ts, q'.2 = s
  | [] => by intro q hq; simp [T.subss] at hq
  | t :: ts => by
    intro q hq s hs
    simp only [T.subss, List.mem_append] at hq ⊢
    rcases hq with hq | hq
    · obtain ⟨q', h1, h2⟩ := subs_args l l' t q hq s hs
      exact ⟨q', .inl h1, h2⟩
    · obtain ⟨q', h1, h2⟩ := subss_args l l' ts q hq s hs
      exact ⟨q', .inr h1, h2⟩
theorem subss_self (l : Nat) : (ts : List T) → ∀ s ∈ ts, ∃ q' ∈ T.subss l ts, q'.2 = s
  | [] => by intro s hs; simp at hs
  | t :: ts => by
    intro s hs
    simp only [T.subss, List.mem_append]
    rcases List.mem_cons.1 hs with rfl | hs
    · exact ⟨(l, s), .inl (by cases s; simp [T.subs]), rfl⟩
    · obtain ⟨q', h1, h2⟩ := subss_self l ts s hs
      exact ⟨q', .inr h1, h2⟩
end
theorem prt_left (x y : T) : x ∈ prt x y := by
  simp only [prt, List.mem_append, List.mem_map]
  exact .inl ⟨(1, x), by cases x; simp [T.subs], rfl⟩
theorem prt_right (x y : T) : y ∈ prt x y := by
  simp only [prt, List.mem_append, List.mem_map]
  exact .inr ⟨(1, y), by cases y; simp [T.subs], rfl⟩
theorem prt_arg {x y t s : T} (h : t ∈ prt x y) (hs : s ∈ t.args) : s ∈ prt x y := by
  simp only [prt, List.mem_append, List.mem_map] at h ⊢
  rcases h with ⟨q, hq, rfl⟩ | ⟨q, hq, rfl⟩
  · exact .inl (subs_args 1 1 x q hq s hs)
  · exact .inr (subs_args 1 1 y q hq s hs)
def sumD : List T → Nat
  | [] => 0
  | n :: F => n.args.length + sumD F
theorem sumD_append (A B : List T) : sumD (A ++ B) = sumD A + sumD B := by
  induction A with
  | nil => simp [sumD]
  | cons a A ih => simp only [List.cons_append, sumD, ih]; omega
mutual
theorem sumD_subs (l : Nat) : (t : T) → sumD ((T.subs l t).map Prod.snd) + 1 = t.size
  | .node h ts => by
    have := sumD_subss (l + 1) ts
    simp only [T.subs, List.map_cons, sumD, T.args, T.size]
    omega
theorem sumD_subss (l : Nat) : (ts : List T) → sumD ((T.subss l ts).map Prod.snd) + ts.length = T.sizes ts
  | [] => by simp [T.subss, sumD, T.sizes]
  | t :: ts => by
    have h1 := sumD_subs l t
    have h2 := sumD_subss l ts
    simp only [T.subss, List.map_append, sumD_append, T.sizes, List.length_cons]
    omega
end
theorem sumD_prt (x y : T) : sumD (prt x y) ≤ x.size + y.size := by
  have h1 := sumD_subs 1 x
  have h2 := sumD_subs 1 y
  unfold prt
  rw [sumD_append]
  omega

/-- The product of the numbers of arguments, and the number, of parts whose put size is at most S. -/
def gP (σ : Int → T) (S : Nat) : List T → Nat
  | [] => 1
  | n :: F => (if (n.sub σ).size ≤ S then max 1 n.args.length else 1) * gP σ S F
def gN (σ : Int → T) (S : Nat) : List T → Nat
  | [] => 0
  | n :: F => (if (n.sub σ).size ≤ S then 1 else 0) + gN σ S F
theorem gP_pos (σ : Int → T) (S : Nat) (F : List T) : 1 ≤ gP σ S F := by
  induction F with
  | nil => simp [gP]
  | cons n F ih =>
    rw [gP]
    refine Nat.mul_le_mul (m₁ := 1) (n₁ := 1) ?_ ih
    split
    · exact Nat.le_max_left _ _
    · exact Nat.le_refl _
theorem gP_mono (σ : Int → T) {S S' : Nat} (h : S ≤ S') (F : List T) : gP σ S F ≤ gP σ S' F := by
  induction F with
  | nil => exact Nat.le_refl _
  | cons n F ih =>
    rw [gP, gP]
    refine Nat.mul_le_mul ?_ ih
    split
    · rw [if_pos (by omega)]; exact Nat.le_refl _
    · split
      · exact Nat.le_max_left _ _
      · exact Nat.le_refl _
theorem gN_mono (σ : Int → T) {S S' : Nat} (h : S ≤ S') (F : List T) : gN σ S F ≤ gN σ S' F := by
  induction F with
  | nil => exact Nat.le_refl _
  | cons n F ih =>
    rw [gN, gN]
    split
    · rw [if_pos (by omega)]; omega
    · omega
theorem gP_step (σ : Int → T) {S S' : Nat} {F : List T} {n : T} (hn : n ∈ F) (h1 : S < (n.sub σ).size) (h2 : (n.sub σ).size ≤ S') : max 1 n.args.length * gP σ S F ≤ gP σ S' F ∧ gN σ S F + 1 ≤ gN σ S' F := by
  induction F with
  | nil => simp at hn
  | cons m F ih =>
    rw [gP, gP, gN, gN]
    by_cases e : m = n
    · subst e
      rw [if_neg (by omega), if_pos h2, if_neg (by omega), if_pos h2, Nat.one_mul]
      have := gN_mono σ (show S ≤ S' by omega) F
      exact ⟨Nat.mul_le_mul_left _ (gP_mono σ (by omega) F), by omega⟩
    · have hm : n ∈ F := by
        rcases List.mem_cons.1 hn with h | h
        · exact absurd h.symm e
        · exact h
      obtain ⟨i1, i2⟩ := ih hm
      constructor
      · rw [Nat.mul_left_comm]
        refine Nat.mul_le_mul ?_ i1
        split
        · rw [if_pos (by omega)]; exact Nat.le_refl _
        · split
          · exact Nat.le_max_left _ _
          · exact Nat.le_refl _
      · split
        · rw [if_pos (by omega)]; omega
        · omega
theorem cube3 : ∀ d : Nat, (max 1 d) ^ 3 ≤ 3 ^ d
  | 0 => by decide
  | 1 => by decide
  | 2 => by decide
  | 3 => by decide
  | d + 4 => by
    have ih := cube3 (d + 3)
    rw [Nat.max_eq_right (by omega)] at ih ⊢
    have e : 3 ^ (d + 4) = 3 * 3 ^ (d + 3) := by rw [Nat.pow_succ]; omega
    rw [e]
    refine Nat.le_trans ?_ (Nat.mul_le_mul_left 3 ih)
    have h3 : (d + 4) ^ 3 = d * d * d + 12 * (d * d) + 48 * d + 64 := by
      have h1 : (d + 4) * (d + 4) = d * d + 8 * d + 16 := by simp only [Nat.add_mul, Nat.mul_add]; omega
      rw [Nat.pow_succ, Nat.pow_two, h1]
      simp only [Nat.add_mul, Nat.mul_add]
      rw [Nat.mul_assoc 8 d d]
      omega
    have h4 : (d + 3) ^ 3 = d * d * d + 9 * (d * d) + 27 * d + 27 := by
      have h1 : (d + 3) * (d + 3) = d * d + 6 * d + 9 := by simp only [Nat.add_mul, Nat.mul_add]; omega
      rw [Nat.pow_succ, Nat.pow_two, h1]
      simp only [Nat.add_mul, Nat.mul_add]
      rw [Nat.mul_assoc 6 d d]
      omega
    rw [h3, h4]
    omega
theorem gP_cube (σ : Int → T) (S : Nat) (F : List T) : gP σ S F ^ 3 ≤ 3 ^ sumD F := by
  induction F with
  | nil => simp [gP, sumD]
  | cons n F ih =>
    rw [gP, sumD, Nat.mul_pow, Nat.pow_add]
    refine Nat.mul_le_mul ?_ ih
    split
    · exact cube3 _
    · rw [Nat.one_pow]; exact Nat.pow_pos (by omega)
theorem gN_le (σ : Int → T) (S : Nat) (F : List T) : gN σ S F ≤ F.length := by
  induction F with
  | nil => simp [gN]
  | cons n F ih =>
    rw [gN, List.length_cons]
    split <;> omega
theorem sizes_le_mul {ts : List T} {m : Nat} (h : ∀ t ∈ ts, t.size ≤ m) : T.sizes ts ≤ ts.length * m := by
  induction ts with
  | nil => simp [T.sizes]
  | cons t ts ih =>
    have h1 := h t (by simp)
    have h2 := ih fun s hs => h s (by simp [hs])
    rw [T.sizes, List.length_cons, Nat.succ_mul]
    omega
/-- Every part that is put is a variable or is like a function part that is put. -/
def Org (F : List T) (σ : Int → T) : Prop := ∀ t ∈ F, (t.sub σ).size = 1 ∨ ∃ n ∈ F, ¬ n.head < 0 ∧ n.sub σ = t.sub σ
theorem grow {F : List T} {σ : Int → T} (hcl : ∀ t ∈ F, ∀ s ∈ t.args, s ∈ F) (ho : Org F σ) : ∀ (S : Nat) (t : T), t ∈ F → (t.sub σ).size ≤ S → (t.sub σ).size ≤ (gN σ (t.sub σ).size F + 1) * gP σ (t.sub σ).size F := by
  intro S
  induction S with
  | zero => intro t _ h; have := T.size_pos (t.sub σ); omega
  | succ S ih =>
    intro t ht hS
    rcases ho t ht with h1 | ⟨n, hn, hp, e⟩
    · have hpp := gP_pos σ (t.sub σ).size F
      have := Nat.mul_le_mul (show 1 ≤ gN σ (t.sub σ).size F + 1 by omega) hpp
      omega
    · rw [← e] at hS ⊢
      have hsz : (n.sub σ).size = 1 + T.sizes (n.args.map (T.sub σ)) := by rw [T.sub_pos hp, T.size]
      obtain ⟨Z, hZ⟩ : ∃ Z, (n.sub σ).size = Z := ⟨_, rfl⟩
      rw [hZ] at hS hsz ⊢
      -- every argument is smaller: its size is at most the bound one step below
      have hst := gP_step σ (S := Z - 1) (S' := Z) hn (by omega) (by omega)
      have hargs : ∀ u ∈ n.args.map (T.sub σ), u.size ≤ (gN σ (Z - 1) F + 1) * gP σ (Z - 1) F := fun u hu => by
        obtain ⟨s, hs, rfl⟩ := List.mem_map.1 hu
        have hlt : (s.sub σ).size ≤ Z - 1 := by
          obtain ⟨i, hi⟩ := List.getElem?_of_mem hu
          have := T.size_lt_of_mem hi
          omega
        have := ih s (hcl n hn s hs) (by omega)
        refine Nat.le_trans this (Nat.mul_le_mul ?_ (gP_mono σ hlt F))
        have := gN_mono σ hlt F
        omega
      have hsum := sizes_le_mul hargs
      rw [List.length_map] at hsum
      have h5 : n.args.length * ((gN σ (Z - 1) F + 1) * gP σ (Z - 1) F) ≤ gN σ Z F * gP σ Z F := by
        rw [Nat.mul_left_comm]
        refine Nat.mul_le_mul hst.2 (Nat.le_trans (Nat.mul_le_mul_right _ (Nat.le_max_right 1 _)) hst.1)
      have hpp := gP_pos σ Z F
      rw [Nat.add_mul, Nat.one_mul]
      omega
/-- With at most 60 parts no part that is put has more than 300000000000 parts. -/
theorem grow_bound {x y : T} (h60 : x.size + y.size ≤ 60) {σ : Int → T} (ho : Org (prt x y) σ) {t : T} (ht : t ∈ prt x y) : (t.sub σ).size ≤ 300000000000 := by
  have h := grow (fun t ht s hs => prt_arg ht hs) ho _ t ht (Nat.le_refl _)
  have hN := gN_le σ (t.sub σ).size (prt x y)
  rw [prt_length] at hN
  have hC := gP_cube σ (t.sub σ).size (prt x y)
  have hD := sumD_prt x y
  have hC2 : gP σ (t.sub σ).size (prt x y) ^ 3 ≤ 3 ^ 60 := Nat.le_trans hC (Nat.pow_le_pow_right (by omega) (by omega))
  have hP : gP σ (t.sub σ).size (prt x y) ≤ 4000000000 := by
    apply Classical.byContradiction
    intro hno
    have := Nat.pow_le_pow_left (show 4000000000 ≤ gP σ (t.sub σ).size (prt x y) by omega) 3
    have h3 : (3 : Nat) ^ 60 < 4000000000 ^ 3 := by decide
    omega
  have := Nat.mul_le_mul (show gN σ (t.sub σ).size (prt x y) + 1 ≤ 61 by omega) hP
  omega

end Go.Proofs.Ytcbjnfdhghhgeaa
