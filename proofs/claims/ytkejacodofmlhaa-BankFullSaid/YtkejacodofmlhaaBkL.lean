/- The bank that BankFull fills, in plain words. -/
import Derived.Test.YtkejacodofmlhaaBkW
namespace Go.Proofs.Ytkejacodofmlhaa
set_option linter.unusedVariables false
set_option linter.unusedSimpArgs false
open Go.RowKit

def vr (x : Nat) : T := .node (-1 - (x : Int)) []
def wd (v : Nat) : T := .node 7 [vr (v % 250), vr (v / 250 % 250)]
def stp (j : Nat) : List T := if j < 250 then [vr j, wd j] else [wd j]
def Lk (k : Nat) : List T := (List.range k).flatMap stp
theorem Lk_succ (k : Nat) : Lk (k + 1) = Lk k ++ stp k := by simp [Lk, List.range_succ, List.flatMap_append]
theorem Lk_len (k : Nat) : (Lk k).length = k + min k 250 := by
  induction k with
  | zero => rfl
  | succ k ih =>
    rw [Lk_succ, List.length_append, ih]
    unfold stp
    split
    · simp; omega
    · simp; omega
theorem vr_inj {x y : Nat} : vr x = vr y ↔ x = y := by
  simp only [vr, T.node.injEq, and_true]
  omega
theorem wd_inj {x y : Nat} (hx : x < 62500) (hy : y < 62500) : wd x = wd y ↔ x = y := by
  simp only [wd, T.node.injEq, List.cons.injEq, vr_inj, and_true, true_and]
  omega
theorem vr_ne_wd (x y : Nat) : vr x ≠ wd y := by simp [vr, wd]
theorem wd_ne_vr (x y : Nat) : wd y ≠ vr x := fun h => vr_ne_wd x y h.symm
theorem mem_vr (x k : Nat) : vr x ∈ Lk k ↔ x < min k 250 := by
  induction k with
  | zero => simp [Lk]
  | succ k ih =>
    rw [Lk_succ, List.mem_append, ih]
    unfold stp
    split
    · simp only [List.mem_cons, List.not_mem_nil, or_false, vr_inj, vr_ne_wd]; omega
    · simp only [List.mem_cons, List.not_mem_nil, or_false, vr_ne_wd]; omega
theorem mem_wd (x k : Nat) (hx : x < 62500) (hk : k < 62500) : wd x ∈ Lk k ↔ x < k := by
  induction k with
  | zero => simp [Lk]
  | succ k ih =>
    rw [Lk_succ, List.mem_append, ih (by omega)]
    unfold stp
    split
    · simp only [List.mem_cons, List.not_mem_nil, or_false, wd_inj hx (show k < 62500 by omega), wd_ne_vr, false_or]; omega
    · simp only [List.mem_cons, List.not_mem_nil, or_false, wd_inj hx (show k < 62500 by omega)]; omega
theorem mem_fun {h : Int} (hh : 0 ≤ h) (k : Nat) : T.node h [] ∉ Lk k := by
  induction k with
  | zero => simp [Lk]
  | succ k ih =>
    rw [Lk_succ, List.mem_append]
    unfold stp
    split
    · simp only [List.mem_cons, List.not_mem_nil, or_false, vr, wd, T.node.injEq]
      simp
      exact ⟨ih, by omega⟩
    · simp only [List.mem_cons, List.not_mem_nil, or_false, vr, wd, T.node.injEq]
      simp
      exact ih
theorem bad_leaf (h : Int) : bad (T.subs 1 (T.node h [])) = !okB h 0 := by
  simp [bad, T.subs, T.subss, T.head, T.args]
theorem check_vr {x : Nat} (hx : x ≤ 255) : (vr x).check = 0 := by
  refine check_zero.2 ⟨by simp [vr, T.size, T.sizes], by simp [vr, T.depth, T.depths], ?_⟩
  unfold vr
  rw [bad_leaf]
  unfold okB
  rw [if_pos (by omega)]
  simp
  omega
theorem check_wd (v : Nat) : (wd v).check = 0 := by
  refine check_zero.2 ⟨by simp [wd, vr, T.size, T.sizes], by simp [wd, vr, T.depth, T.depths], ?_⟩
  have h1 := (check_zero.1 (check_vr (x := v % 250) (by omega))).2.2
  have h2 := (check_zero.1 (check_vr (x := v / 250 % 250) (by omega))).2.2
  rw [bad_level 1 2] at h1 h2
  simp only [wd, bad, T.subs, T.subss, List.any_cons, List.any_append, List.any_nil, Bool.or_false] at h1 h2 ⊢
  rw [h1, h2]
  rfl
theorem check_fun {h : Int} (h0 : 0 ≤ h) (h1 : h ≤ 1023) : (T.node h []).check = 0 := by
  refine check_zero.2 ⟨by simp [T.size, T.sizes], by simp [T.depth, T.depths], ?_⟩
  rw [bad_leaf]
  unfold okB
  rw [if_neg (by omega)]
  simp
  omega

theorem pt_wd {k : Nat} (hk : k < 3846) : ∃ i, pt (Lk k) (wd k) = (Lk (k + 1), some i) := by
  have hn : wd k ∉ Lk k := fun h => by have := (mem_wd k k (by omega) (by omega)).1 h; omega
  have hlen := Lk_len k
  have h2 : k / 250 % 250 = k / 250 := Nat.mod_eq_of_lt (by omega)
  rw [pt_eq, if_neg hn]
  show ∃ i, (match pts (Lk k) [vr (k % 250), vr (k / 250 % 250)] with
    | (L', false) => (L', none)
    | (L', true) => if 4096 ≤ L'.length then (L', none) else (L' ++ [wd k], some L'.length)) = _
  by_cases h : k < 250
  · have h1 : k % 250 = k := Nat.mod_eq_of_lt h
    have hv : vr k ∉ Lk k := fun e => by have := (mem_vr k k).1 e; omega
    have e1 : pt (Lk k) (vr k) = (Lk k ++ [vr k], some (Lk k).length) := by
      rw [pt_eq, if_neg hv]
      show (match pts (Lk k) [] with
        | (L', false) => (L', none)
        | (L', true) => if 4096 ≤ L'.length then (L', none) else (L' ++ [vr k], some L'.length)) = _
      simp only [pts]
      rw [if_neg (by omega)]
    have hm : vr (k / 250) ∈ Lk k ++ [vr k] := by
      rcases Nat.eq_zero_or_pos k with h0 | h0
      · subst h0; simp
      · exact List.mem_append_left _ ((mem_vr _ _).2 (by omega))
    have e2 : pt (Lk k ++ [vr k]) (vr (k / 250)) = (Lk k ++ [vr k], some ((Lk k ++ [vr k]).idxOf (vr (k / 250)))) := by rw [pt_eq, if_pos hm]
    refine ⟨(Lk k ++ [vr k]).length, ?_⟩
    rw [h1, h2]
    simp only [pts, e1, e2]
    rw [if_neg (by simp; omega), Lk_succ]
    simp [stp, h]
  · have hm1 : vr (k % 250) ∈ Lk k := (mem_vr _ _).2 (by omega)
    have hm2 : vr (k / 250) ∈ Lk k := (mem_vr _ _).2 (by omega)
    have e1 : pt (Lk k) (vr (k % 250)) = (Lk k, some ((Lk k).idxOf (vr (k % 250)))) := by rw [pt_eq, if_pos hm1]
    have e2 : pt (Lk k) (vr (k / 250)) = (Lk k, some ((Lk k).idxOf (vr (k / 250)))) := by rw [pt_eq, if_pos hm2]
    refine ⟨(Lk k).length, ?_⟩
    rw [h2]
    simp only [pts, e1, e2]
    rw [if_neg (by omega), Lk_succ]
    simp [stp, h]
theorem put_wd {k : Nat} (hk : k < 3846) : ∃ i : Nat, putV (Lk k) (wd k) = .tuple #[.int .i64 (i : Int), .int .i64 0] ∧ putL (Lk k) (wd k) = Lk (k + 1) := by
  obtain ⟨i, hi⟩ := pt_wd hk
  refine ⟨i, ?_⟩
  unfold putV putL
  rw [if_pos (check_wd k), if_pos (check_wd k), hi]
  exact ⟨rfl, rfl⟩
theorem full_len {K : Nat} (hK : K = 3846) : (Lk K).length = 4096 := by rw [Lk_len]; omega
theorem put_full {K : Nat} (hK : K = 3846) {h : Int} (h0 : 0 ≤ h) (h1 : h ≤ 1023) : putV (Lk K) (.node h []) = .tuple #[.int .i64 0, .int .i64 9] ∧ putL (Lk K) (.node h []) = Lk K := by
  have hp : pt (Lk K) (.node h []) = (Lk K, none) := by
    rw [pt_eq, if_neg (mem_fun h0 _)]
    show (match pts (Lk K) [] with
      | (L', false) => (L', none)
      | (L', true) => if 4096 ≤ L'.length then (L', none) else (L' ++ [T.node h []], some L'.length)) = _
    simp only [pts]
    rw [if_pos (by rw [full_len hK]; exact Nat.le_refl _)]
  unfold putV putL
  rw [if_pos (check_fun h0 h1), if_pos (check_fun h0 h1), hp]
  exact ⟨rfl, rfl⟩
theorem put_again {K : Nat} (hK : K = 3846) {n : Nat} (hn : n ≤ 900) : ∃ i : Nat, (Lk K)[i]? = some (wd n) ∧ putV (Lk K) (wd n) = .tuple #[.int .i64 (i : Int), .int .i64 0] ∧ putL (Lk K) (wd n) = Lk K := by
  have hm : wd n ∈ Lk K := (mem_wd n K (by omega) (by omega)).2 (by omega)
  have hlt := List.idxOf_lt_length_iff.2 hm
  refine ⟨(Lk K).idxOf (wd n), by rw [List.getElem?_eq_getElem hlt, List.getElem_idxOf], ?_⟩
  have hp : pt (Lk K) (wd n) = (Lk K, some ((Lk K).idxOf (wd n))) := by rw [pt_eq, if_pos hm]
  unfold putV putL
  rw [if_pos (check_wd n), if_pos (check_wd n), hp]
  exact ⟨rfl, rfl⟩

end Go.Proofs.Ytkejacodofmlhaa
