/- Q1k: joined of Kb2, Kb3. -/
import Derived.Test.YtbfanbaijombaaaQ1g
import Derived.Test.YtbfanbaijombaaaQ1i
/- Knuth and Bendix's order: within terms, and with terms put. -/
namespace Go.Proofs.Ytbfanbaijombaaa
set_option linter.unusedVariables false
set_option linter.unusedSimpArgs false
open Go.RowKit

theorem sumA_perm (f : Int → Int) {a b : List Int} (h : a.Perm b) : sumA f a = sumA f b := by
  induction h with
  | nil => rfl
  | cons x _ ih => simp [sumA, ih]
  | swap x y l => simp [sumA]; omega
  | trans _ _ h1 h2 => rw [h1, h2]

/-! ### A term in another one -/
theorem hdsL_modify (F : T → T) (z : Int) : ∀ {ts : List T} {k : Nat} {s : T}, ts[k]? = some s → (T.hdsL (ts.modify k F)).count z + s.hds.count z = (T.hdsL ts).count z + (F s).hds.count z
  | [], k, s, h => by simp at h
  | t :: ts, 0, s, h => by
    simp at h; subst h
    simp [T.hdsL, List.count_append]; omega
  | t :: ts, k + 1, s, h => by
    have := hdsL_modify F z (ts := ts) (k := k) (s := s) (by simpa using h)
    simp only [List.modify_succ_cons, T.hdsL, List.count_append]
    omega
theorem put_count (a : T) (z : Int) : ∀ {p : List Int} {t x : T}, t.at p = some x → (t.put a p).hds.count z + x.hds.count z = t.hds.count z + a.hds.count z
  | [], t, x, h => by simp [T.at] at h; subst h; simp [T.put]; omega
  | i :: p, t, x, h => by
    simp only [T.at] at h
    split at h
    · cases h
    · cases hx : t.args[i.toNat]? with
      | none => rw [hx] at h; cases h
      | some s =>
        rw [hx] at h
        have h1 := put_count a z (p := p) (t := s) (x := x) h
        have h2 := hdsL_modify (fun s => s.put a p) z hx
        simp only [T.put]
        rw [T.hds_eq t, T.hds]
        simp only [List.count_cons]
        omega
theorem put_sum (a : T) (f : Int → Int) {p : List Int} {t x : T} (h : t.at p = some x) : sumA f (t.put a p).hds + sumA f x.hds = sumA f t.hds + sumA f a.hds := by
  rw [← sumA_append, ← sumA_append]
  exact sumA_perm f (List.perm_iff_count.2 fun z => by rw [List.count_append, List.count_append]; exact put_count a z h)
theorem gtL_modify {g : Sg} {F G : T → T} : ∀ {ts : List T} {k : Nat} {s : T}, ts[k]? = some s → gtL g (ts.modify k F) (ts.modify k G) = gtK g (F s) (G s)
  | [], k, s, h => by simp at h
  | t :: ts, 0, s, h => by
    simp at h; subst h
    simp only [List.modify_zero_cons, gtL]
    by_cases e : F t = G t
    · rw [e, T.same_self, if_pos rfl, gtL_self, gtK_self]
    · rw [T.same_ne e, if_neg (by simp)]
  | t :: ts, k + 1, s, h => by
    simp only [List.modify_succ_cons, gtL, T.same_self, if_true]
    exact gtL_modify (by simpa using h)
theorem gtK_put {g : Sg} (a b : T) : ∀ {p : List Int} {t x : T}, t.at p = some x → bad (T.subs 1 (t.put a p)) = false → gtK g (t.put a p) (t.put b p) = gtK g a b
  | [], t, x, h, hb => by simp [T.put]
  | i :: p, t, x, h, hb => by
    have hat := h
    simp only [T.at] at h
    split at h
    · cases h
    · cases hx : t.args[i.toNat]? with
      | none => rw [hx] at h; cases h
      | some s =>
        rw [hx] at h
        have hk := (List.getElem?_eq_some_iff.1 hx).1
        have hsa : (t.put a (i :: p)).args[i.toNat]? = some (s.put a p) := by
          simp only [T.put, T.args_node]
          simp [hx]
        have ih := gtK_put (g := g) a b (p := p) (t := s) (x := x) h (good_arg hb hsa)
        have hh : 0 ≤ t.head := by
          by_cases q : (t.put a (i :: p)).head < 0
          · have := good_var hb q
            rw [this] at hsa; simp at hsa
          · simpa [T.put, T.head] using q
        have hL : gtL g (t.put a (i :: p)).args (t.put b (i :: p)).args = gtK g a b := by
          simp only [T.put, T.args_node]
          rw [gtL_modify hx]; exact ih
        have ha : (t.put a (i :: p)).head = t.head := rfl
        have hbh : (t.put b (i :: p)).head = t.head := rfl
        have hO : Oft (t.put a (i :: p)) (t.put b (i :: p)) ↔ Oft a b := by
          constructor
          · intro o z hz
            have h1 := put_count a z hat; have h2 := put_count b z hat; have h3 := o z hz; omega
          · intro o z hz
            have h1 := put_count a z hat; have h2 := put_count b z hat; have h3 := o z hz; omega
        have w1 := put_sum a (wo g) hat
        have w2 := put_sum b (wo g) hat
        simp only [sumA_hds] at w1 w2
        rw [Bool.eq_iff_iff, gtK_iff, hO, hL, ha, hbh]
        constructor
        · rintro ⟨o, h | ⟨hw, _, _, h | h⟩⟩
          · exact gtK_iff.2 ⟨o, .inl (by omega)⟩
          · omega
          · exact h.2
        · intro h
          refine ⟨(gtK_iff.1 h).1, ?_⟩
          have := gtK_wt h
          by_cases hw : wtT g a = wtT g b
          · exact .inr ⟨by omega, hh, hh, .inr ⟨rfl, h⟩⟩
          · exact .inl (by omega)
theorem put_at (a : T) : ∀ {p : List Int} {t x : T}, t.at p = some x → (t.put a p).at p = some a
  | [], t, x, h => by simp [T.put, T.at]
  | i :: p, t, x, h => by
    simp only [T.at] at h
    split at h
    · cases h
    · rename_i hi
      cases hx : t.args[i.toNat]? with
      | none => rw [hx] at h; cases h
      | some s =>
        rw [hx] at h
        have := put_at a (p := p) (t := s) (x := x) h
        simp only [T.put, T.at, T.args_node, List.length_modify]
        rw [if_neg hi]
        simp [hx, this]
theorem stand_put {g : Sg} {a b t x : T} {p : List Int} (h : t.at p = some x) (h1 : bad (T.subs 1 (t.put a p)) = false) (h2 : bad (T.subs 1 (t.put b p)) = false) : stand g (t.put a p) (t.put b p) = stand g a b := by
  unfold stand
  rw [gtK_put a b h h1, gtK_put b a h h2]
  have : T.same (t.put a p) (t.put b p) = T.same a b := by
    by_cases e : a = b
    · subst e; rw [T.same_self, T.same_self]
    · rw [T.same_ne e, T.same_ne (fun h' => e ?_)]
      have ha := put_at a h
      have hb := put_at b h
      rw [h', hb] at ha
      exact (Option.some.inj ha).symm
  rw [this]

/-! ### Terms put for variables -/
theorem sumAL_map {f : Int → T} {ψ φ : Int → Int} {ts : List T} (h : ∀ s ∈ ts, sumA ψ (s.sub f).hds = sumA φ s.hds) : sumA ψ (T.hdsL (ts.map (T.sub f))) = sumA φ (T.hdsL ts) := by
  induction ts with
  | nil => rfl
  | cons t ts ih =>
    simp only [List.map_cons, T.hdsL, sumA_append]
    rw [h t (List.mem_cons_self ..), ih (fun s hs => h s (List.mem_cons_of_mem _ hs))]
/-- What a sum over the heads is, when terms are put. -/
theorem sumA_sub (f : Int → T) (ψ : Int → Int) : ∀ (N : Nat) (t : T), t.size ≤ N → bad (T.subs 1 t) = false → sumA ψ (t.sub f).hds = sumA (fun h => if h < 0 then sumA ψ (f (-1 - h)).hds else ψ h) t.hds := by
  intro N
  induction N with
  | zero => intro t ht; have := T.size_pos t; omega
  | succ N ih =>
    intro t ht hb
    by_cases q : t.head < 0
    · rw [T.sub_neg q, T.hds_eq t, good_var hb q]
      simp [sumA, T.hdsL, q]
    · rw [T.sub_pos q, T.hds_eq t, T.hds]
      simp only [sumA, q, if_false]
      rw [sumAL_map (fun s hs => by
        obtain ⟨k, hk⟩ := List.getElem?_of_mem hs
        exact ih s (by have := size_mem hs; have := T.size_eq t; omega) (good_arg hb hk))]
def ind (z h : Int) : Int := if h = z then 1 else 0
theorem count_sum (z : Int) : ∀ (L : List Int), ((L.count z : Nat) : Int) = sumA (ind z) L
  | [] => by simp [sumA]
  | h :: L => by
    rw [List.count_cons]
    simp only [sumA, ind, ← count_sum z L]
    by_cases e : h = z
    · subst e; simp; omega
    · have : (h == z) = false := by simpa using e
      simp [this, e]
theorem sumA_mono {φ : Int → Int} (h0 : ∀ h, 0 ≤ h → φ h = 0) : ∀ (B A : List Int), (∀ h ∈ A, h < 0 → 0 ≤ φ h) → (∀ h, h < 0 → B.count h ≤ A.count h) → sumA φ B ≤ sumA φ A
  | [], A, h1, _ => by
    simp only [sumA]
    exact sumA_nonneg (fun h hm => by
      by_cases q : h < 0
      · exact h1 h hm q
      · rw [h0 h (by omega)]; exact Int.le_refl _)
  | h :: B, A, h1, ho => by
    simp only [sumA]
    by_cases q : h < 0
    · have hm : h ∈ A := List.count_pos_iff.1 (by have := ho h q; rw [List.count_cons_self] at this; omega)
      have hp := List.perm_cons_erase hm
      rw [sumA_perm φ hp]
      simp only [sumA]
      have := sumA_mono h0 B (A.erase h) (fun z hz => h1 z (List.mem_of_mem_erase hz)) (fun z hz => by
        have h2 := ho z hz
        have h3 := hp.count_eq z
        rw [List.count_cons] at h2 h3
        omega)
      omega
    · rw [h0 h (by omega)]
      have := sumA_mono h0 B A h1 (fun z hz => by
        have h2 := ho z hz
        rw [List.count_cons] at h2
        omega)
      omega
theorem oft_sub {f : Int → T} {a b : T} (ha : bad (T.subs 1 a) = false) (hb : bad (T.subs 1 b) = false) (h : Oft a b) : Oft (a.sub f) (b.sub f) := by
  intro z hz
  have e1 := sumA_sub f (ind z) a.size a (Nat.le_refl _) ha
  have e2 := sumA_sub f (ind z) b.size b (Nat.le_refl _) hb
  rw [← count_sum] at e1 e2
  have := sumA_mono (φ := fun h => if h < 0 then sumA (ind z) (f (-1 - h)).hds else ind z h) (fun h hh => by
    simp only [show ¬ h < 0 from by omega, if_false, ind, show ¬ h = z from by omega]) b.hds a.hds (fun h _ hh => by
    simp only [hh, if_true]; rw [← count_sum]; exact Int.natCast_nonneg _) h
  omega
theorem wt_sub {g : Sg} {f : Int → T} {t : T} (hb : bad (T.subs 1 t) = false) : wtT g (t.sub f) = wtT g t + sumA (fun h => if h < 0 then wtT g (f (-1 - h)) - 1 else 0) t.hds := by
  rw [← sumA_hds g (t.sub f), sumA_sub f (wo g) t.size t (Nat.le_refl _) hb, ← sumA_hds g t]
  generalize t.hds = L
  induction L with
  | nil => simp [sumA]
  | cons h L ih =>
    simp only [sumA, ih]
    by_cases q : h < 0
    · simp only [q, if_true, sumA_hds, wo]; omega
    · simp only [q, if_false]; omega
theorem gtL_map {g : Sg} {f : Int → T} : ∀ {ts us : List T}, (∀ t ∈ ts, ∀ u ∈ us, gtK g t u = true → gtK g (t.sub f) (u.sub f) = true) → gtL g ts us = true → gtL g (ts.map (T.sub f)) (us.map (T.sub f)) = true
  | [], us, _, h => by simp [gtL] at h
  | t :: ts, [], _, h => by simp [gtL] at h
  | t :: ts, u :: us, hT, h => by
    rw [gtL] at h
    simp only [List.map_cons]
    rw [gtL]
    by_cases e : t = u
    · subst e
      rw [T.same_self, if_pos rfl] at h ⊢
      exact gtL_map (fun s hs v hv => hT s (List.mem_cons_of_mem _ hs) v (List.mem_cons_of_mem _ hv)) h
    · rw [T.same_ne e, if_neg (by simp)] at h
      have h2 := hT t (List.mem_cons_self ..) u (List.mem_cons_self ..) h
      rw [T.same_ne (gtK_ne h2), if_neg (by simp)]
      exact h2
theorem gtK_sub {g : Sg} {f : Int → T} : ∀ (N : Nat) (a b : T), a.size ≤ N → (∀ h ∈ a.hds, h < 0 → 1 ≤ wtT g (f (-1 - h))) → bad (T.subs 1 a) = false → bad (T.subs 1 b) = false → gtK g a b = true → gtK g (a.sub f) (b.sub f) = true := by
  intro N
  induction N with
  | zero => intro a b ha; have := T.size_pos a; omega
  | succ N ih =>
    intro a b hN hf ha hb h
    obtain ⟨o, p⟩ := gtK_iff.1 h
    have w1 := wt_sub (g := g) (f := f) ha
    have w2 := wt_sub (g := g) (f := f) hb
    have hm := sumA_mono (φ := fun h => if h < 0 then wtT g (f (-1 - h)) - 1 else 0) (fun h hh => by simp only [show ¬ h < 0 from by omega, if_false]) b.hds a.hds (fun h hm hh => by simp only [hh, if_true]; have := hf h hm hh; omega) o
    have hw := gtK_wt h
    refine gtK_iff.2 ⟨oft_sub ha hb o, ?_⟩
    by_cases he : wtT g (a.sub f) = wtT g (b.sub f)
    · rcases p with p | ⟨wq, a0, b0, q⟩
      · omega
      · have ea : (a.sub f) = .node a.head (a.args.map (T.sub f)) := T.sub_pos (by omega)
        have eb : (b.sub f) = .node b.head (b.args.map (T.sub f)) := T.sub_pos (by omega)
        refine .inr ⟨he, by rw [ea]; exact a0, by rw [eb]; exact b0, ?_⟩
        rw [ea, eb]
        rcases q with q | ⟨q1, q2⟩
        · exact .inl q
        · refine .inr ⟨q1, gtL_map (fun t ht u hu hgt => ?_) q2⟩
          obtain ⟨i, hi⟩ := List.getElem?_of_mem ht
          obtain ⟨j, hj⟩ := List.getElem?_of_mem hu
          exact ih t u (by have := size_mem ht; have := T.size_eq a; omega) (fun x hx => hf x (by rw [T.hds_eq a]; exact List.mem_cons_of_mem _ (hds_mem ht x hx))) (good_arg ha hi) (good_arg hb hj) hgt
    · exact .inl (by omega)

end Go.Proofs.Ytbfanbaijombaaa

/- Rows of terms compared as multisets, in plain words. -/
namespace Go.Proofs.Ytbfanbaijombaaa
set_option linter.unusedVariables false
set_option linter.unusedSimpArgs false
open Go.RowKit

instance instDecT : DecidableEq T := fun a b => decidable_of_iff _ (T.same_iff a b)

/-- A row without what another one has, as often as it does. -/
def diffM : List T → List T → List T
  | [], _ => []
  | t :: a, b => if t ∈ b then diffM a (b.erase t) else t :: diffM a b
theorem diffM_count (z : T) : ∀ (a b : List T), (diffM a b).count z = a.count z - b.count z
  | [], b => by simp [diffM]
  | t :: a, b => by
    rw [diffM]
    by_cases h : t ∈ b
    · rw [if_pos h, diffM_count z a (b.erase t), List.count_cons, List.count_erase]
      by_cases e : t = z
      · subst e
        have : 0 < b.count t := List.count_pos_iff.2 h
        simp; omega
      · have e1 : (t == z) = false := by simpa using e
        simp [e1]
    · rw [if_neg h, List.count_cons, diffM_count z a b, List.count_cons]
      by_cases e : t = z
      · subst e
        rw [List.count_eq_zero.2 h]; simp
      · have e1 : (t == z) = false := by simpa using e
        simp [e1]
theorem diffM_mem {z : T} {a b : List T} : z ∈ diffM a b ↔ b.count z < a.count z := by
  rw [← List.count_pos_iff, diffM_count]; omega
def overT (g : Sg) (x y : List T) : Bool := decide (x ≠ []) && y.all fun u => x.any fun t => gtK g t u
theorem overT_congr {g : Sg} {x y x' y' : List T} (h1 : ∀ z, z ∈ x ↔ z ∈ x') (h2 : ∀ z, z ∈ y ↔ z ∈ y') : overT g x y = overT g x' y' := by
  rw [Bool.eq_iff_iff]
  have hn : x = [] ↔ x' = [] := by
    simp only [List.eq_nil_iff_forall_not_mem, h1]
  simp only [overT, Bool.and_eq_true, decide_eq_true_eq, List.all_eq_true, List.any_eq_true, ne_eq, hn, h2]
  simp only [h1]
def rowsT (g : Sg) (a b : List T) : Int := if diffM a b = [] ∧ diffM b a = [] then 0 else if overT g (diffM a b) (diffM b a) then 1 else if overT g (diffM b a) (diffM a b) then -1 else 2
theorem rowsT_congr {g : Sg} {a b a' b' : List T} (h1 : ∀ z, z ∈ diffM a b ↔ z ∈ diffM a' b') (h2 : ∀ z, z ∈ diffM b a ↔ z ∈ diffM b' a') : rowsT g a b = rowsT g a' b' := by
  have n1 : diffM a b = [] ↔ diffM a' b' = [] := by simp only [List.eq_nil_iff_forall_not_mem, h1]
  have n2 : diffM b a = [] ↔ diffM b' a' = [] := by simp only [List.eq_nil_iff_forall_not_mem, h2]
  unfold rowsT
  rw [overT_congr h1 h2, overT_congr h2 h1]
  simp only [n1, n2]
/-- What both have plays no part. -/
theorem rowsT_both (g : Sg) (a b : List T) (t : T) : rowsT g (t :: a) (b ++ [t]) = rowsT g a b :=
  rowsT_congr (fun z => by rw [diffM_mem, diffM_mem, List.count_cons, List.count_append, List.count_singleton]; omega)
    (fun z => by rw [diffM_mem, diffM_mem, List.count_cons, List.count_append, List.count_singleton]; omega)
/-- One more is greater. -/
theorem rowsT_more (g : Sg) (a : List T) (t : T) : rowsT g (t :: a) a = 1 := by
  have h1 : diffM (t :: a) a ≠ [] := fun e => by
    have : t ∈ diffM (t :: a) a := diffM_mem.2 (by rw [List.count_cons_self]; omega)
    rw [e] at this; simp at this
  have h2 : diffM a (t :: a) = [] := List.eq_nil_iff_forall_not_mem.2 fun z hz => by
    have := diffM_mem.1 hz
    rw [List.count_cons] at this; omega
  unfold rowsT
  rw [if_neg (fun h => h1 h.1), h2]
  simp [overT, h1]
/-- Rows of one term each. -/
theorem rowsT_one (g : Sg) (a b : T) : rowsT g [a] [b] = stand g a b := by
  unfold rowsT stand
  by_cases e : a = b
  · subst e; simp [diffM, T.same_self]
  · have e' : ¬ b = a := fun h => e h.symm
    rw [T.same_ne e]
    simp [diffM, e, e', overT]

end Go.Proofs.Ytbfanbaijombaaa
