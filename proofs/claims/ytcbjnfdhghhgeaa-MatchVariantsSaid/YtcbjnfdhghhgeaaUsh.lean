/- A term and itself with other variables: the most general unifier, in plain words. Substitutions that agree on a term's variables. -/
import Derived.Test.YtcbjnfdhghhgeaaQ1i
import Derived.Test.YtcbjnfdhghhgeaaRVr
namespace Go.Proofs.Ytcbjnfdhghhgeaa
set_option linter.unusedVariables false
set_option linter.unusedSimpArgs false
open Go.RowKit

theorem heads_arg {t s : T} {i : Nat} (hi : t.args[i]? = some s) {g : Int} (hg : g ∈ s.heads) : g ∈ t.heads := by
  rw [T.heads_eq]
  exact List.mem_cons_of_mem _ (List.mem_flatten.2 ⟨_, List.mem_map.2 ⟨s, List.mem_of_getElem? hi, rfl⟩, hg⟩)
theorem sub_congr_vars {f g : Int → T} : ∀ (N : Nat) (t : T), t.size ≤ N → bad (T.subs 1 t) = false → (∀ h ∈ t.heads, h < 0 → f (-1 - h) = g (-1 - h)) → t.sub f = t.sub g := by
  intro N
  induction N with
  | zero => intro t ht; have := T.size_pos t; omega
  | succ N ih =>
    intro t ht hg hf
    by_cases q : t.head < 0
    · rw [T.sub_neg q, T.sub_neg q]
      exact hf t.head (by rw [T.heads_eq]; simp) q
    · rw [T.sub_pos q, T.sub_pos q]
      congr 1
      apply List.map_congr_left
      intro s hs
      obtain ⟨i, hi⟩ := List.getElem?_of_mem hs
      exact ih s (by have := T.size_lt_of_mem hi; have := T.size_eq t; omega) (good_arg hg hi) (fun h h1 h2 => hf h (heads_arg hi h1) h2)
theorem sub_inj_vars {f g : Int → T} : ∀ (N : Nat) (t : T), t.size ≤ N → bad (T.subs 1 t) = false → t.sub f = t.sub g → ∀ h ∈ t.heads, h < 0 → f (-1 - h) = g (-1 - h) := by
  intro N
  induction N with
  | zero => intro t ht; have := T.size_pos t; omega
  | succ N ih =>
    intro t ht hg he h hh hneg
    rw [T.heads_eq] at hh
    by_cases q : t.head < 0
    · rw [T.sub_neg q, T.sub_neg q] at he
      rw [good_leaf hg q] at hh
      simp at hh
      subst hh
      exact he
    · rw [T.sub_pos q, T.sub_pos q] at he
      injection he with _ he
      rcases List.mem_cons.1 hh with rfl | hh
      · exact absurd hneg q
      · simp only [List.mem_flatten, List.mem_map] at hh
        obtain ⟨_, ⟨s, hs, rfl⟩, hh⟩ := hh
        obtain ⟨i, hi⟩ := List.getElem?_of_mem hs
        have e1 := congrArg (fun l => l[i]?) he
        simp only [List.getElem?_map, hi, Option.map_some, Option.some.injEq] at e1
        exact ih s (by have := T.size_lt_of_mem hi; have := T.size_eq t; omega) (good_arg hg hi) e1 h hh hneg
theorem mem_vars' (t : T) (v : Int) : v ∈ vars1 t ↔ -1 - v ∈ t.heads ∧ 0 ≤ v := by
  rw [vars1, mem_vars]
  constructor
  · rintro ⟨h, h1, h2, rfl⟩
    rw [show -1 - (-1 - h) = h from by omega]
    exact ⟨h1, by omega⟩
  · rintro ⟨h1, h2⟩
    exact ⟨_, h1, by omega, by omega⟩
theorem vars1_bound {t : T} (hg : bad (T.subs 1 t) = false) {z : Int} (hz : z ∈ vars1 t) : 0 ≤ z ∧ z ≤ 255 := by
  obtain ⟨x, hx, h1, rfl⟩ := (mem_varsOf _ _).1 hz
  unfold bad at hg
  rw [List.any_eq_false] at hg
  have := hg x hx
  simp only [Bool.not_eq_true', Bool.not_eq_false] at this
  simp only [okB, if_pos h1, Bool.and_eq_true, decide_eq_true_iff] at this
  omega
theorem vars1_nodup (t : T) : (vars1 t).Nodup := by
  have : ∀ (pre : List (Nat × T)) (acc : List Int), acc.Nodup → (pre.foldl varStep acc).Nodup := by
    intro pre
    induction pre with
    | nil => intro acc h; exact h
    | cons x pre ih =>
      intro acc h
      rw [List.foldl_cons]
      refine ih _ ?_
      unfold varStep
      split
      · split
        · exact h
        · rename_i hc
          rw [List.nodup_append]
          refine ⟨h, by simp, fun a ha b hb => ?_⟩
          obtain rfl := List.mem_singleton.1 hb
          rintro rfl
          exact hc (by simpa using ha)
      · exact h
  exact this _ [] List.nodup_nil
theorem sorted_mem (zs : List Int) (v : Int) : v ∈ sorted zs ↔ v ∈ zs := by simp [sorted]
theorem sorted_lt {zs : List Int} (h : zs.Nodup) : (sorted zs).Pairwise (· < ·) := by
  have h1 : (sorted zs).Pairwise (fun x y => decide (x ≤ y) = true) := List.pairwise_mergeSort (le := fun x y => decide (x ≤ y)) (by intro a b c; simp; omega) (by intro a b; simp; omega) zs
  have h2 : (sorted zs).Nodup := (List.mergeSort_perm zs _).nodup_iff.2 h
  have h3 := h1.and h2
  exact h3.imp (fun {a b} ⟨h, hn⟩ => by have := of_decide_eq_true h; omega)
theorem vars_shift {t : T} {y : Int} (hg : bad (T.subs 1 t) = false) (hy : 0 ≤ y) {v : Int} (hv : v ∈ vars1 t) : v + y ∈ vars1 (t.sub (offS y)) := by
  obtain ⟨h1, h2⟩ := (mem_vars' _ _).1 hv
  rw [mem_vars']
  refine ⟨(heads_sub (offS y) _ t (Nat.le_refl _) hg _ (by omega)).2 ⟨_, h1, by omega, ?_⟩, by omega⟩
  rw [show -1 - (-1 - v) = v from by omega]
  simp [offS, vt, T.heads_eq, T.head, T.args]

/-- The unifier of a term and itself with other variables. -/
def shm (t : T) (y : Int) : Sb := (sorted (vars1 t)).map (fun v => (v + y, vt v))
theorem shm_mem {t : T} {y : Int} {p : Int × T} : p ∈ shm t y ↔ ∃ v ∈ vars1 t, p = (v + y, vt v) := by
  simp only [shm, List.mem_map, sorted_mem]
  constructor
  · rintro ⟨v, h, rfl⟩; exact ⟨v, h, rfl⟩
  · rintro ⟨v, h, rfl⟩; exact ⟨v, h, rfl⟩
theorem shm_rise (t : T) (y : Int) : ((shm t y).map Prod.fst).Pairwise (· < ·) := by
  rw [shm, List.map_map, List.pairwise_map]
  exact (sorted_lt (vars1_nodup t)).imp (fun h => by simp; exact h)
theorem shm_bnd {t : T} {y v : Int} : bnd (shm t y) v = true ↔ ∃ u ∈ vars1 t, u + y = v := by
  rw [bnd_mem]
  simp only [List.mem_map]
  constructor
  · rintro ⟨p, hp, rfl⟩
    obtain ⟨u, hu, rfl⟩ := shm_mem.1 hp
    exact ⟨u, hu, rfl⟩
  · rintro ⟨u, hu, rfl⟩
    exact ⟨_, shm_mem.2 ⟨u, hu, rfl⟩, rfl⟩
theorem shm_length (t : T) (y : Int) : (shm t y).length = (vars1 t).length := by simp [shm, sorted_length]
theorem shm_mgu {t : T} {y : Int} (hg : bad (T.subs 1 t) = false) (hy : 0 ≤ y) (hu : bad (T.subs 1 (t.sub (offS y))) = false) (hd : ∀ v ∈ vars1 t, v ∉ vars1 (t.sub (offS y))) : IsMgu (fun θ => t.sub θ = (t.sub (offS y)).sub θ) (shm t y) := by
  have hfree : ∀ v ∈ vars1 t, bnd (shm t y) v = false := fun v hv => by
    cases hb : bnd (shm t y) v
    · rfl
    · obtain ⟨u, h1, rfl⟩ := shm_bnd.1 hb
      exact absurd (vars_shift hg hy h1) (hd _ hv)
  have hof : ∀ v ∈ vars1 t, ofS (shm t y) (v + y) = vt v := fun v hv => ofS_mem (shm_rise t y) (shm_mem.2 ⟨v, hv, rfl⟩)
  refine ⟨shm_rise t y, ?_, ?_, ?_, ?_, ?_, ?_⟩
  · intro p hp
    obtain ⟨v, hv, rfl⟩ := shm_mem.1 hp
    exact vars1_bound hu (vars_shift hg hy hv)
  · intro p hp
    obtain ⟨v, hv, rfl⟩ := shm_mem.1 hp
    have := vars1_bound hg hv
    exact (check_ok (vt_check this.1 this.2)).2.2
  · intro p hp q hq hn
    obtain ⟨v, hv, rfl⟩ := shm_mem.1 hp
    simp [vt, T.subs, T.subss] at hq
    subst hq
    simp only [T.head]
    rw [show -1 - (-1 - v) = v from by omega]
    exact hfree v hv
  · intro p hp hn
    obtain ⟨v, hv, rfl⟩ := shm_mem.1 hp
    simp only [vt, T.head]
    have : v + y ≠ v := fun e => by
      have h1 := vars_shift hg hy hv
      rw [e] at h1
      exact hd v hv h1
    omega
  · show t.sub _ = (t.sub (offS y)).sub _
    rw [T.sub_sub]
    refine sub_congr_vars _ t (Nat.le_refl _) hg fun h hh hneg => ?_
    have hv : -1 - h ∈ vars1 t := (mem_vars' _ _).2 ⟨by rw [show -1 - (-1 - h) = h from by omega]; exact hh, by omega⟩
    rw [ofS_unbound (hfree _ hv)]
    show _ = (vt (-1 - h + y)).sub _
    rw [vt_sub (by omega), hof _ hv]
  · intro θ hθ v h0 h1
    rw [T.sub_sub] at hθ
    cases hb : bnd (shm t y) v
    · rw [ofS_unbound hb, vt_sub h0]
    · obtain ⟨u, hu, rfl⟩ := shm_bnd.1 hb
      rw [hof u hu]
      have hu' := (mem_vars' _ _).1 hu
      rw [vt_sub hu'.2]
      have := sub_inj_vars _ t (Nat.le_refl _) hg hθ (-1 - u) hu'.1 (by omega)
      rw [show -1 - (-1 - u) = u from by omega] at this
      rw [this]
      show _ = (vt (u + y)).sub θ
      rw [vt_sub h0]
/-- What UnifyShifted asks for. -/
theorem shifted_key {t : T} {y : Int} (he : shfE t y = 0) (hd : ∀ v ∈ vars1 t, v ∉ vars1 (shfT t y)) {s : Sb} {b : Bool} {k : Int} (hR : MguR t (shfT t y) s b k) :
    b = true ∧ k = 0 ∧ s.length = (vars1 t).length ∧ (∀ p ∈ s, p.2.size ≤ 1000000000000) ∧ appT s t = t ∧ appE s t = 0 := by
  unfold shfE at he
  split at he
  case isFalse => cases he
  case isTrue hG =>
  have hG' := hG
  simp [goodH] at hG'
  have hT : shfT t y = t.sub (offS y) := by unfold shfT endT; rw [if_pos hG, if_pos he]
  rw [hT] at hR hd
  have hg := (check_ok hG'.1.1).2.2
  have hM := shm_mgu hg hG'.1.2 (check_ok he).2.2 hd
  have hc : ∀ p ∈ shm t y, p.2.check = 0 := fun p hp => by
    obtain ⟨v, hv, rfl⟩ := shm_mem.1 hp
    have := vars1_bound hg hv
    exact vt_check this.1 this.2
  have herr : errL (shm t y) = 0 := by
    generalize shm t y = l at hc
    induction l with
    | nil => rfl
    | cons p l ih => rw [errL, if_pos (hc p (by simp))]; exact ih fun q hq => hc q (by simp [hq])
  obtain ⟨rfl, rfl, rfl⟩ := hR.fn (.inr ⟨⟨hG'.1.1, he⟩, .inr ⟨_, hM, .inr ⟨herr, rfl, rfl, rfl⟩⟩⟩)
  have hsub : t.sub (ofS (shm t y)) = t := sub_self _ _ t (Nat.le_refl _) hg fun g hg1 hg2 => by
    refine ofS_unbound ?_
    have hv : -1 - g ∈ vars1 t := (mem_vars' _ _).2 ⟨by rw [show -1 - (-1 - g) = g from by omega]; exact hg1, by omega⟩
    cases hb : bnd (shm t y) (-1 - g)
    · rfl
    · obtain ⟨u, h1, e⟩ := shm_bnd.1 hb
      rw [← e] at hv
      exact absurd (vars_shift hg hG'.1.2 h1) (hd _ hv)
  have ha := app_of (hM.right herr) hG'.1.1 (by rw [hsub]; exact hG'.1.1)
  exact ⟨rfl, rfl, shm_length t y, errL_small herr, by rw [ha.2, hsub], ha.1⟩

end Go.Proofs.Ytcbjnfdhghhgeaa
