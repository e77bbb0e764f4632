/- Then over all variables from 0 to 255; how three substitutions are put together. Plain words. -/
import Derived.Test.YtfkaecjdncjggaaThen
namespace Go.Proofs.Ytfkaecjdncjggaa
set_option linter.unusedVariables false
set_option linter.unusedSimpArgs false
open Go.RowKit

/-- All variables. -/
def allV : List Int := (List.range 256).map (fun n : Nat => (n : Int))
theorem mem_allV {v : Int} : v ∈ allV ↔ 0 ≤ v ∧ v ≤ 255 := by
  simp only [allV, List.mem_map, List.mem_range]
  constructor
  · rintro ⟨n, hn, rfl⟩; omega
  · rintro ⟨h0, h1⟩; exact ⟨v.toNat, by omega, by omega⟩
theorem allV_rising : allV.Pairwise (· < ·) := by
  unfold allV
  rw [List.pairwise_map]
  exact List.pairwise_lt_range.imp (fun h => by omega)
theorem check_vt {v : Int} (h0 : 0 ≤ v) (h1 : v ≤ 255) : (vt v).check = 0 := by
  have hlt : (-1 - v) < 0 := by omega
  have hok : okB (-1 - v) 0 = true := by unfold okB; rw [if_pos hlt]; simp; omega
  have hb : bad (T.subs 1 (vt v)) = false := by
    show bad (T.subs 1 (.node (-1 - v) [])) = false
    rw [bad_eq]
    show (!okB (-1 - v) 0 || bad []) = false
    rw [hok]
    rfl
  unfold T.check
  rw [hb]
  simp [vt, T.size, T.sizes, T.depth, T.depths]
theorem then_filter {s u : Sb} (P : Int → Bool) : ∀ (L : List Int), (∀ z ∈ L, 0 ≤ z ∧ z ≤ 255) → (∀ z ∈ L, P z = false → thenT s u z = vt z) → thenL s u L = thenL s u (L.filter P) ∧ thenE s u L = thenE s u (L.filter P) := by
  intro L
  induction L with
  | nil => intros; exact ⟨rfl, rfl⟩
  | cons z L ih =>
    intro hb hp
    obtain ⟨h1, h2⟩ := ih (fun y hy => hb y (by simp [hy])) (fun y hy => hp y (by simp [hy]))
    cases hz : P z
    · have e := hp z (by simp) hz
      have hzb := hb z (by simp)
      rw [List.filter_cons_of_neg (by simp [hz]), thenL, thenE, e, if_pos (show (vt z).head = -1 - z from rfl), if_pos (check_vt hzb.1 hzb.2)]
      exact ⟨h1, h2⟩
    · rw [List.filter_cons_of_pos (by simpa using hz), thenL, thenE, thenL, thenE, h1, h2]
      exact ⟨rfl, rfl⟩
theorem unbound_then {s u : Sb} {z : Int} (h0 : 0 ≤ z) (h1 : bnd s z = false) (h2 : bnd u z = false) : thenT s u z = vt z := by
  unfold thenT
  rw [ofS_unbound h1, T.sub_neg (show (vt z).head < 0 from by show -1 - z < 0; omega), show -1 - (vt z).head = z from by show -1 - (-1 - z) = z; omega, ofS_unbound h2]
/-- Over the variables of both it is what it is over all variables. -/
theorem then_allV {s u : Sb} (hs : rightS 0 s = true) (hu : rightS 0 u = true) {vs : List Int} (hv : IsVs s u vs) : thenL s u vs = thenL s u allV ∧ thenE s u vs = thenE s u allV := by
  have hf := then_filter (s := s) (u := u) (fun z => bnd s z || bnd u z) allV (fun z hz => mem_allV.1 hz) (fun z hz h => by
    rw [Bool.or_eq_false_iff] at h
    exact unbound_then (mem_allV.1 hz).1 h.1 h.2)
  have he : allV.filter (fun z => bnd s z || bnd u z) = vs := rising_unique (allV_rising.filter _) hv.1 (fun z => by
    rw [List.mem_filter, hv.2 z, Bool.or_eq_true]
    constructor
    · exact fun h => h.2
    · intro h
      exact ⟨mem_allV.2 (vs_bound hs hu hv ((hv.2 z).2 h)), h⟩)
  rw [he] at hf
  exact ⟨hf.1.symm, hf.2.symm⟩
theorem then_congr {s u s' u' : Sb} : ∀ (L : List Int), (∀ z ∈ L, thenT s u z = thenT s' u' z) → thenL s u L = thenL s' u' L ∧ thenE s u L = thenE s' u' L := by
  intro L
  induction L with
  | nil => intros; exact ⟨rfl, rfl⟩
  | cons z L ih =>
    intro h
    obtain ⟨h1, h2⟩ := ih (fun y hy => h y (by simp [hy]))
    rw [thenL, thenE, thenL, thenE, h z (by simp), h1, h2]
    exact ⟨rfl, rfl⟩
/-- Three, put together one way or the other. -/
theorem then_assoc {s u v a b : Sb} (hs : rightS 0 s = true) (ha : ∀ z, 0 ≤ z → ofS a z = thenT s u z) (hb : ∀ z, 0 ≤ z → ofS b z = thenT u v z) {z : Int} (h0 : 0 ≤ z) (h1 : z ≤ 255) : thenT a v z = thenT s b z := by
  have hg := ofS_good hs h0 h1
  unfold thenT at *
  rw [ha z h0, T.sub_sub]
  exact sub_congr _ _ (Nat.le_refl _) hg.1 (fun y hy _ => (hb y hy).symm)

end Go.Proofs.Ytfkaecjdncjggaa
