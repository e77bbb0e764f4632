/- Literals: what the document says of them; plain facts. -/
import Derived.Test.YtleohdddaadbeaaQBl
import Derived.Test.YtleohdddaadbeaaQBm
import Derived.Test.YtleohdddaadbeaaSam0
namespace Go.Proofs.Ytleohdddaadbeaa
set_option linter.unusedVariables false
set_option linter.unusedSimpArgs false
open Go.RowKit

/-- Do the sides of a literal go together? -/
def sortE (g : Sg) (l r : T) : Int := if predS g l.head then (if r.head = 0 then 0 else 10) else if predS g r.head then 10 else 0
/-- The error of a literal. -/
def errL (g : Sg) (l r : T) : Int := if errT g l ≠ 0 then errT g l else if errT g r ≠ 0 then errT g r else sortE g l r
theorem errL_ok {g : Sg} {l r : T} (h : errL g l r = 0) : errT g l = 0 ∧ errT g r = 0 ∧ sortE g l r = 0 := by
  unfold errL at h
  by_cases q : errT g l = 0
  · rw [if_neg (fun e => e q)] at h
    by_cases q' : errT g r = 0
    · rw [if_neg (fun e => e q')] at h
      exact ⟨q, q', h⟩
    · rw [if_pos q'] at h; exact absurd h q'
  · rw [if_pos q] at h; exact absurd h q
theorem errL_of {g : Sg} {l r : T} (h1 : errT g l = 0) (h2 : errT g r = 0) (h3 : sortE g l r = 0) : errL g l r = 0 := by
  unfold errL
  rw [if_neg (fun e => e h1), if_neg (fun e => e h2), h3]
theorem errL_left {g : Sg} {l r : T} (h : errT g l ≠ 0) : errL g l r = errT g l := by unfold errL; rw [if_pos h]
theorem errL_right {g : Sg} {l r : T} (h1 : errT g l = 0) (h2 : errT g r ≠ 0) : errL g l r = errT g r := by
  unfold errL; rw [if_neg (fun e => e h1), if_pos h2]
theorem errL_sort {g : Sg} {l r : T} (h1 : errT g l = 0) (h2 : errT g r = 0) : errL g l r = sortE g l r := by
  unfold errL; rw [if_neg (fun e => e h1), if_neg (fun e => e h2)]

/-- The same sides, one way round or the other. -/
def sidB (l r l' r' : T) : Bool := (sameB l l' && sameB r r') || (sameB l r' && sameB r l')
theorem sidB_iff {l r l' r' : T} : sidB l r l' r' = true ↔ sidesT l r l' r' := by
  simp only [sidB, sidesT, Bool.or_eq_true, Bool.and_eq_true, sameB_iff]
def samL (n : Bool) (l r : T) (n' : Bool) (l' r' : T) : Bool := n == n' && sidB l r l' r'
def oppL (n : Bool) (l r : T) (n' : Bool) (l' r' : T) : Bool := n != n' && sidB l r l' r'
theorem errF_row {g : Sg} {n : Bool} {l r : T} (h1 : errT g l = 0) (h2 : errT g r = 0) : errF g (rowL n l r) = 0 := by
  cases n
  · exact errF_pair h1 h2
  · show errF g ([l, l] ++ [r, r]) = 0
    rw [errF_app, errF_pair h1 h1, if_pos rfl, errF_pair h2 h2]

/-! ### An order -/
theorem lit_same {g : Sg} {n n' : Bool} {l r l' r' : T} : rowsT g (rowL n l r) (rowL n' l' r') = 0 ↔ samL n l r n' l' r' = true := by
  rw [rowsT_zero_iff, rowL_eq, samL, Bool.and_eq_true, beq_iff_eq, sidB_iff]
theorem lit_neg {g : Sg} {n n' : Bool} {l r l' r' : T} (h : oppL n l r n' l' r' = true) (hn : n = true) : rowsT g (rowL n l r) (rowL n' l' r') = 1 := by
  subst hn
  rw [oppL, Bool.and_eq_true, sidB_iff] at h
  have : n' = false := by
    have h1 := h.1
    cases n' with
    | false => rfl
    | true => simp at h1
  subst this
  exact rowsT_more_iff.2 (rowL_neg h.2)

/-! ### Oriented -/
def oriA (g : Sg) (l r : T) : T := if stand g l r = -1 then r else l
def oriB (g : Sg) (l r : T) : T := if stand g l r = -1 then l else r
theorem stand_ori (g : Sg) (l r : T) : stand g (oriA g l r) (oriB g l r) ≠ -1 := by
  unfold oriA oriB
  by_cases h : stand g l r = -1
  · rw [if_pos h, if_pos h, stand_swap, h]; decide
  · rw [if_neg h, if_neg h]; exact h
theorem sid_ori (g : Sg) (l r : T) : sidB (oriA g l r) (oriB g l r) l r = true := by
  rw [sidB_iff]
  unfold oriA oriB
  by_cases h : stand g l r = -1
  · rw [if_pos h, if_pos h]; exact .inr ⟨rfl, rfl⟩
  · rw [if_neg h, if_neg h]; exact .inl ⟨rfl, rfl⟩
theorem ori_again (g : Sg) (l r : T) : oriA g (oriA g l r) (oriB g l r) = oriA g l r ∧ oriB g (oriA g l r) (oriB g l r) = oriB g l r := by
  have := stand_ori g l r
  exact ⟨by rw [oriA, if_neg this], by rw [oriB, if_neg this]⟩
/-- $true is not greater than an atom. -/
theorem atom_true {g : Sg} {l r : T} (h : errL g l r = 0) (hp : predS g l.head = true) : stand g l r ≠ -1 := by
  obtain ⟨h1, h2, h3⟩ := errL_ok h
  unfold sortE at h3
  rw [if_pos hp] at h3
  have hr0 : r.head = 0 := by
    by_cases e : r.head = 0
    · exact e
    · rw [if_neg e] at h3; cases h3
  have hrt := errT_right h1
  intro e
  have hgt := stand_less.1 e
  obtain ⟨_, hd⟩ := gtK_iff.1 hgt
  have hg0 : g[0]? = some sy0 := by
    unfold rightG at hrt
    simp only [Bool.and_eq_true, decide_eq_true_eq] at hrt
    exact hrt.1.1.2
  have hra : r.args = [] := by
    have hf := (errT_okT h2).2.1
    rw [fitsT_eq] at hf
    rw [hr0] at hf
    unfold armOk at hf
    rw [show (0 : Int).toNat = 0 from rfl, hg0] at hf
    simp [sy0] at hf
    exact hf.1
  have hw : wtT g r = 1 := by
    rw [wtT_eq, hr0, hra]
    unfold wo
    rw [if_neg (by decide), show (0 : Int).toNat = 0 from rfl, hg0]
    rfl
  have hwl := wt_pos hrt (errT_okT h1)
  have hl0 : 0 ≤ l.head := by
    unfold predS at hp
    simp only [Bool.and_eq_true, decide_eq_true_eq] at hp
    exact hp.1
  rcases hd with hd | ⟨_, _, _, hd | ⟨_, hd⟩⟩
  · omega
  · omega
  · rw [hra] at hd; simp [gtL] at hd
theorem errL_ori {g : Sg} {l r : T} (h : errL g l r = 0) : errL g (oriA g l r) (oriB g l r) = 0 := by
  unfold oriA oriB
  by_cases e : stand g l r = -1
  · rw [if_pos e, if_pos e]
    obtain ⟨h1, h2, h3⟩ := errL_ok h
    refine errL_of h2 h1 ?_
    by_cases hp : predS g l.head = true
    · exact absurd e (atom_true h hp)
    · unfold sortE at h3 ⊢
      rw [if_neg hp] at h3
      by_cases hq : predS g r.head = true
      · rw [if_pos hq] at h3; cases h3
      · rw [if_neg hq, if_neg hp]
  · rw [if_neg e, if_neg e]; exact h
theorem oriA_gt (g : Sg) (l r : T) : oriA g l r = if gtK g r l then r else l := by
  unfold oriA
  by_cases h : gtK g r l = true
  · rw [if_pos (stand_less.2 h), if_pos h]
  · rw [if_neg (fun e => h (stand_less.1 e)), if_neg h]
theorem oriB_gt (g : Sg) (l r : T) : oriB g l r = if gtK g r l then l else r := by
  unfold oriB
  by_cases h : gtK g r l = true
  · rw [if_pos (stand_less.2 h), if_pos h]
  · rw [if_neg (fun e => h (stand_less.1 e)), if_neg h]

end Go.Proofs.Ytleohdddaadbeaa
