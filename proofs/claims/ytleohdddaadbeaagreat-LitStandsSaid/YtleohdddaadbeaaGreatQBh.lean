/- QBh: joined of Kb, Kb3. -/
import Derived.Test.YtleohdddaadbeaaGreatQBg
/- Knuth and Bendix's order in plain words. -/
namespace Go.Proofs.YtleohdddaadbeaaGreat
set_option linter.unusedVariables false
set_option linter.unusedSimpArgs false
open Go.RowKit

mutual
def T.same : T → T → Bool
  | .node h ts, .node k us => decide (h = k) && T.sameL ts us
def T.sameL : List T → List T → Bool
  | [], [] => true
  | t :: ts, u :: us => T.same t u && T.sameL ts us
  | [], _ :: _ => false
  | _ :: _, [] => false
end
mutual
theorem T.same_iff : (a b : T) → (T.same a b = true ↔ a = b)
  | .node h ts, .node k us => by
    have := T.sameL_iff ts us
    simp only [T.same, Bool.and_eq_true, decide_eq_true_eq, this, T.node.injEq]
theorem T.sameL_iff : (a b : List T) → (T.sameL a b = true ↔ a = b)
  | [], [] => by simp [T.sameL]
  | t :: ts, u :: us => by
    have h1 := T.same_iff t u
    have h2 := T.sameL_iff ts us
    simp only [T.sameL, Bool.and_eq_true, h1, h2, List.cons.injEq]
  | [], _ :: _ => by simp [T.sameL]
  | _ :: _, [] => by simp [T.sameL]
end
theorem T.same_self (a : T) : T.same a a = true := (T.same_iff a a).2 rfl
theorem T.same_ne {a b : T} (h : a ≠ b) : T.same a b = false := by
  cases hs : T.same a b
  · rfl
  · exact absurd ((T.same_iff a b).1 hs) h

/-- Has a each variable at least as often as b? -/
def oftB (a b : T) : Bool := b.hds.all fun h => !decide (h < 0) || decide (b.hds.count h ≤ a.hds.count h)
def Oft (a b : T) : Prop := ∀ h : Int, h < 0 → b.hds.count h ≤ a.hds.count h
theorem oft_iff {a b : T} : oftB a b = true ↔ Oft a b := by
  simp only [oftB, List.all_eq_true, Bool.or_eq_true, Bool.not_eq_true', decide_eq_false_iff_not, decide_eq_true_eq]
  constructor
  · intro h x hx
    by_cases hm : x ∈ b.hds
    · rcases h x hm with h | h
      · exact absurd hx h
      · exact h
    · rw [List.count_eq_zero.2 hm]; exact Nat.zero_le _
  · intro h x _
    by_cases hx : x < 0
    · exact .inr (h x hx)
    · exact .inl hx

mutual
def gtK (g : Sg) : T → T → Bool
  | .node h ts, b => oftB (.node h ts) b && (if wtT g (.node h ts) = wtT g b then !decide (h < 0) && (!decide (b.head < 0) && (if h = b.head then gtL g ts b.args else decide (b.head < h))) else decide (wtT g b < wtT g (.node h ts)))
def gtL (g : Sg) : List T → List T → Bool
  | t :: ts, u :: us => if T.same t u then gtL g ts us else gtK g t u
  | _, _ => false
end
theorem gtK_eq (g : Sg) (a b : T) : gtK g a b = (oftB a b && (if wtT g a = wtT g b then !decide (a.head < 0) && (!decide (b.head < 0) && (if a.head = b.head then gtL g a.args b.args else decide (b.head < a.head))) else decide (wtT g b < wtT g a))) := by
  cases a; rw [gtK]; rfl
theorem gtK_iff {g : Sg} {a b : T} : gtK g a b = true ↔ Oft a b ∧ (wtT g b < wtT g a ∨ (wtT g a = wtT g b ∧ 0 ≤ a.head ∧ 0 ≤ b.head ∧ (b.head < a.head ∨ (a.head = b.head ∧ gtL g a.args b.args = true)))) := by
  rw [gtK_eq, Bool.and_eq_true, oft_iff]
  refine and_congr_right fun _ => ?_
  by_cases hw : wtT g a = wtT g b
  · rw [if_pos hw]
    by_cases hh : a.head = b.head
    · rw [if_pos hh]
      simp only [Bool.and_eq_true, Bool.not_eq_true', decide_eq_false_iff_not]
      constructor
      · rintro ⟨h1, h2, h3⟩; exact .inr ⟨hw, by omega, by omega, .inr ⟨hh, h3⟩⟩
      · rintro (h | ⟨_, h1, h2, h3⟩)
        · omega
        · rcases h3 with h3 | h3
          · omega
          · exact ⟨by omega, by omega, h3.2⟩
    · rw [if_neg hh]
      simp only [Bool.and_eq_true, Bool.not_eq_true', decide_eq_false_iff_not, decide_eq_true_eq]
      constructor
      · rintro ⟨h1, h2, h3⟩; exact .inr ⟨hw, by omega, by omega, .inl h3⟩
      · rintro (h | ⟨_, h1, h2, h3⟩)
        · omega
        · rcases h3 with h3 | h3
          · exact ⟨by omega, by omega, h3⟩
          · exact absurd h3.1 hh
  · rw [if_neg hw, decide_eq_true_eq]
    constructor
    · exact .inl
    · rintro (h | h)
      · exact h
      · exact absurd h.1 hw

theorem gtL_self (g : Sg) (ts : List T) : gtL g ts ts = false := by
  induction ts with
  | nil => simp [gtL]
  | cons t ts ih => simp [gtL, T.same_self, ih]
theorem gtK_self (g : Sg) (a : T) : gtK g a a = false := by
  rw [gtK_eq]; simp [gtL_self]
theorem gtK_ne {g : Sg} {a b : T} (h : gtK g a b = true) : a ≠ b := fun e => by rw [e, gtK_self] at h; cases h
theorem gtL_trans {g : Sg} : ∀ {ts us vs : List T}, (∀ t ∈ ts, ∀ u v, gtK g t u = true → gtK g u v = true → gtK g t v = true) → gtL g ts us = true → gtL g us vs = true → gtL g ts vs = true
  | [], us, vs, _, h, _ => by simp [gtL] at h
  | t :: ts, [], vs, _, h, _ => by simp [gtL] at h
  | t :: ts, u :: us, [], _, _, h => by simp [gtL] at h
  | t :: ts, u :: us, v :: vs, hT, h1, h2 => by
    rw [gtL] at h1 h2 ⊢
    by_cases e1 : t = u
    · subst e1
      rw [T.same_self, if_pos rfl] at h1
      by_cases e2 : t = v
      · subst e2
        rw [T.same_self, if_pos rfl] at h2 ⊢
        exact gtL_trans (fun s hs => hT s (List.mem_cons_of_mem _ hs)) h1 h2
      · rw [T.same_ne e2, if_neg (by simp)] at h2 ⊢
        exact h2
    · rw [T.same_ne e1, if_neg (by simp)] at h1
      by_cases e2 : u = v
      · subst e2
        rw [T.same_ne e1, if_neg (by simp)]
        exact h1
      · rw [T.same_ne e2, if_neg (by simp)] at h2
        have h3 := hT t (List.mem_cons_self ..) u v h1 h2
        rw [T.same_ne (gtK_ne h3), if_neg (by simp)]
        exact h3
theorem gtK_trans {g : Sg} : ∀ (N : Nat) (a b c : T), a.size ≤ N → gtK g a b = true → gtK g b c = true → gtK g a c = true := by
  intro N
  induction N with
  | zero => intro a b c ha; have := T.size_pos a; omega
  | succ N ih =>
    intro a b c ha h1 h2
    obtain ⟨o1, p1⟩ := gtK_iff.1 h1
    obtain ⟨o2, p2⟩ := gtK_iff.1 h2
    refine gtK_iff.2 ⟨fun h hn => Nat.le_trans (o2 h hn) (o1 h hn), ?_⟩
    rcases p1 with p1 | ⟨w1, a1, b1, q1⟩
    · rcases p2 with p2 | ⟨w2, _⟩
      · exact .inl (by omega)
      · exact .inl (by omega)
    · rcases p2 with p2 | ⟨w2, b2, c2, q2⟩
      · exact .inl (by omega)
      · refine .inr ⟨by omega, a1, c2, ?_⟩
        rcases q1 with q1 | ⟨e1, l1⟩
        · rcases q2 with q2 | ⟨e2, _⟩
          · exact .inl (by omega)
          · exact .inl (by omega)
        · rcases q2 with q2 | ⟨e2, l2⟩
          · exact .inl (by omega)
          · refine .inr ⟨by omega, gtL_trans (fun t ht u v hu hv => ih t u v ?_ hu hv) l1 l2⟩
            have := size_mem ht; have := T.size_eq a; omega
theorem gtK_asym {g : Sg} {a b : T} (h : gtK g a b = true) : gtK g b a = false := by
  cases hb : gtK g b a
  · rfl
  · have := gtK_trans a.size a b a (Nat.le_refl _) h hb
    rw [gtK_self] at this; cases this
theorem gtK_wt {g : Sg} {a b : T} (h : gtK g a b = true) : wtT g b ≤ wtT g a := by
  obtain ⟨_, h | h⟩ := gtK_iff.1 h
  · omega
  · omega

/-! ### Terms without variables -/
def Grd (t : T) : Prop := ∀ h ∈ t.hds, 0 ≤ h
theorem Grd.arg {t s : T} (h : Grd t) (hs : s ∈ t.args) : Grd s := fun x hx => h x (by rw [T.hds_eq]; exact List.mem_cons_of_mem _ (hds_mem hs x hx))
theorem Grd.oft {a b : T} (h : Grd b) : Oft a b := fun x hx => by
  rw [List.count_eq_zero.2 (fun hm => by have := h x hm; omega)]; exact Nat.zero_le _
theorem gtL_total {g : Sg} : ∀ {ts us : List T}, ts.length = us.length → (∀ t ∈ ts, ∀ u ∈ us, t ≠ u → gtK g t u = true ∨ gtK g u t = true) → ts ≠ us → gtL g ts us = true ∨ gtL g us ts = true
  | [], [], _, _, h => absurd rfl h
  | [], _ :: _, h, _, _ => by simp at h
  | _ :: _, [], h, _, _ => by simp at h
  | t :: ts, u :: us, hl, hT, hne => by
    rw [gtL, gtL]
    by_cases e : t = u
    · subst e
      rw [T.same_self, if_pos rfl, if_pos rfl]
      exact gtL_total (by simpa using hl) (fun s hs v hv => hT s (List.mem_cons_of_mem _ hs) v (List.mem_cons_of_mem _ hv)) (fun e => hne (by rw [e]))
    · rw [T.same_ne e, T.same_ne (fun h => e h.symm), if_neg (by simp), if_neg (by simp)]
      exact hT t (List.mem_cons_self ..) u (List.mem_cons_self ..) e
theorem fits_arity {g : Sg} {a b : T} (ha : fitsT g a = true) (hb : fitsT g b = true) (h0 : 0 ≤ a.head) (h : a.head = b.head) : a.args.length = b.args.length := by
  rw [fitsT_eq] at ha hb
  simp only [show ¬ a.head < 0 from by omega, show ¬ b.head < 0 from by omega, decide_false, Bool.false_or, Bool.and_eq_true, armOk] at ha hb
  rw [h] at ha
  obtain ⟨h1, _⟩ := ha
  obtain ⟨h2, _⟩ := hb
  cases hx : g[b.head.toNat]? with
  | none => rw [hx] at h1; simp at h1
  | some x =>
    rw [hx] at h1 h2
    simp only [decide_eq_true_eq] at h1 h2
    omega
theorem gtK_total {g : Sg} : ∀ (N : Nat) (a b : T), a.size ≤ N → OkT g a → OkT g b → Grd a → Grd b → a ≠ b → gtK g a b = true ∨ gtK g b a = true := by
  intro N
  induction N with
  | zero => intro a b ha; have := T.size_pos a; omega
  | succ N ih =>
    intro a b ha oa ob ga gb hne
    have ha0 : 0 ≤ a.head := ga _ (by rw [T.hds_eq]; simp)
    have hb0 : 0 ≤ b.head := gb _ (by rw [T.hds_eq]; simp)
    rcases Int.lt_trichotomy (wtT g a) (wtT g b) with hw | hw | hw
    · exact .inr (gtK_iff.2 ⟨ga.oft, .inl hw⟩)
    · rcases Int.lt_trichotomy a.head b.head with hh | hh | hh
      · exact .inr (gtK_iff.2 ⟨ga.oft, .inr ⟨hw.symm, hb0, ha0, .inl hh⟩⟩)
      · have hl := fits_arity oa.2.1 ob.2.1 ha0 hh
        have hna : a.args ≠ b.args := fun e => hne (by rw [← T.eta a, ← T.eta b, hh, e])
        rcases gtL_total hl (fun t ht u hu hn => ih t u (by have := size_mem ht; have := T.size_eq a; omega) (oa.arg ht) (ob.arg hu) (ga.arg ht) (gb.arg hu) hn) hna with h | h
        · exact .inl (gtK_iff.2 ⟨gb.oft, .inr ⟨hw, ha0, hb0, .inr ⟨hh, h⟩⟩⟩)
        · exact .inr (gtK_iff.2 ⟨ga.oft, .inr ⟨hw.symm, hb0, ha0, .inr ⟨hh.symm, h⟩⟩⟩)
      · exact .inl (gtK_iff.2 ⟨gb.oft, .inr ⟨hw, ha0, hb0, .inl hh⟩⟩)
    · exact .inl (gtK_iff.2 ⟨gb.oft, .inl hw⟩)

/-! ### Parts -/
theorem hds_count_arg {h : Int} {t s : T} (hs : s ∈ t.args) : s.hds.count h ≤ t.hds.count h := by
  rw [T.hds_eq t, List.count_cons]
  have : s.hds.count h ≤ (T.hdsL t.args).count h := by
    generalize t.args = ts at hs
    induction ts with
    | nil => simp at hs
    | cons u ts ih =>
      simp only [T.hdsL, List.count_append]
      rcases List.mem_cons.1 hs with rfl | hs
      · omega
      · have := ih hs; omega
  omega
theorem oft_part : ∀ {p : List Int} {t u : T}, t.at p = some u → Oft t u
  | [], t, u, h => by simp [T.at] at h; subst h; exact fun _ _ => Nat.le_refl _
  | i :: p, t, u, h => by
    simp only [T.at] at h
    split at h
    · cases h
    · cases hx : t.args[i.toNat]? with
      | none => rw [hx] at h; cases h
      | some x =>
        rw [hx] at h
        exact fun z hz => Nat.le_trans (oft_part h z hz) (hds_count_arg (List.mem_of_getElem? hx))
theorem gtK_part {g : Sg} (hr : rightG g = true) {p : List Int} {t u : T} (ht : OkT g t) (h : t.at p = some u) (hp : p ≠ []) : gtK g t u = true :=
  gtK_iff.2 ⟨oft_part h, .inl ((part_ok hr ht h).2.2 hp)⟩

/-! ### How two stand -/
def stand (g : Sg) (a b : T) : Int := if T.same a b then 0 else if gtK g a b then 1 else if gtK g b a then -1 else 2
theorem stand_zero {g : Sg} {a b : T} : stand g a b = 0 ↔ a = b := by
  unfold stand
  constructor
  · intro h
    by_cases e : a = b
    · exact e
    · rw [T.same_ne e, if_neg (by simp)] at h
      split at h
      · cases h
      · split at h <;> cases h
  · rintro rfl; rw [T.same_self, if_pos rfl]
theorem stand_more {g : Sg} {a b : T} : stand g a b = 1 ↔ gtK g a b = true := by
  unfold stand
  constructor
  · intro h
    split at h
    · cases h
    · split at h
      · assumption
      · split at h <;> cases h
  · intro h
    rw [T.same_ne (gtK_ne h), if_neg (by simp), if_pos h]
theorem stand_less {g : Sg} {a b : T} : stand g a b = -1 ↔ gtK g b a = true := by
  unfold stand
  constructor
  · intro h
    split at h
    · cases h
    · split at h
      · cases h
      · split at h
        · assumption
        · cases h
  · intro h
    rw [T.same_ne (fun e => gtK_ne h e.symm), if_neg (by simp), gtK_asym h, if_neg (by simp), if_pos h]
theorem stand_cases (g : Sg) (a b : T) : (stand g a b = 0 ∧ a = b) ∨ (stand g a b = 1 ∧ gtK g a b = true) ∨ (stand g a b = -1 ∧ gtK g b a = true) ∨ (stand g a b = 2 ∧ a ≠ b ∧ gtK g a b = false ∧ gtK g b a = false) := by
  unfold stand
  by_cases e : a = b
  · subst e; rw [T.same_self, if_pos rfl]; exact .inl ⟨rfl, rfl⟩
  · rw [T.same_ne e, if_neg (by simp)]
    cases h1 : gtK g a b
    · cases h2 : gtK g b a
      · exact .inr (.inr (.inr ⟨rfl, e, rfl, rfl⟩))
      · exact .inr (.inr (.inl ⟨rfl, rfl⟩))
    · exact .inr (.inl ⟨rfl, rfl⟩)

end Go.Proofs.YtleohdddaadbeaaGreat

/- Rows of terms compared as multisets, in plain words. -/
namespace Go.Proofs.YtleohdddaadbeaaGreat
set_option linter.unusedVariables false
set_option linter.unusedSimpArgs false
open Go.RowKit

instance instDecT : DecidableEq T := fun a b => decidable_of_iff _ (T.same_iff a b)

/-- A row without what another one has, as often as it does. -/
def diffM : List T → List T → List T
  | [], _ => []
  | t :: a, b => if t ∈ b then diffM a (b.erase t) else t :: diffM a b
theorem diffM_count (z : T) : ∀ (a b : List T), (diffM a b).count z = a.count z - b.count z
  | [], b => by simp [diffM]
  | t :: a, b => by
    rw [diffM]
    by_cases h : t ∈ b
    · rw [if_pos h, diffM_count z a (b.erase t), List.count_cons, List.count_erase]
      by_cases e : t = z
      · subst e
        have : 0 < b.count t := List.count_pos_iff.2 h
        simp; omega
      · have e1 : (t == z) = false := by simpa using e
        simp [e1]
    · rw [if_neg h, List.count_cons, diffM_count z a b, List.count_cons]
      by_cases e : t = z
      · subst e
        rw [List.count_eq_zero.2 h]; simp
      · have e1 : (t == z) = false := by simpa using e
        simp [e1]
theorem diffM_mem {z : T} {a b : List T} : z ∈ diffM a b ↔ b.count z < a.count z := by
  rw [← List.count_pos_iff, diffM_count]; omega
def overT (g : Sg) (x y : List T) : Bool := decide (x ≠ []) && y.all fun u => x.any fun t => gtK g t u
theorem overT_congr {g : Sg} {x y x' y' : List T} (h1 : ∀ z, z ∈ x ↔ z ∈ x') (h2 : ∀ z, z ∈ y ↔ z ∈ y') : overT g x y = overT g x' y' := by
  rw [Bool.eq_iff_iff]
  have hn : x = [] ↔ x' = [] := by
    simp only [List.eq_nil_iff_forall_not_mem, h1]
  simp only [overT, Bool.and_eq_true, decide_eq_true_eq, List.all_eq_true, List.any_eq_true, ne_eq, hn, h2]
  simp only [h1]
def rowsT (g : Sg) (a b : List T) : Int := if diffM a b = [] ∧ diffM b a = [] then 0 else if overT g (diffM a b) (diffM b a) then 1 else if overT g (diffM b a) (diffM a b) then -1 else 2
theorem rowsT_congr {g : Sg} {a b a' b' : List T} (h1 : ∀ z, z ∈ diffM a b ↔ z ∈ diffM a' b') (h2 : ∀ z, z ∈ diffM b a ↔ z ∈ diffM b' a') : rowsT g a b = rowsT g a' b' := by
  have n1 : diffM a b = [] ↔ diffM a' b' = [] := by simp only [List.eq_nil_iff_forall_not_mem, h1]
  have n2 : diffM b a = [] ↔ diffM b' a' = [] := by simp only [List.eq_nil_iff_forall_not_mem, h2]
  unfold rowsT
  rw [overT_congr h1 h2, overT_congr h2 h1]
  simp only [n1, n2]
/-- What both have plays no part. -/
theorem rowsT_both (g : Sg) (a b : List T) (t : T) : rowsT g (t :: a) (b ++ [t]) = rowsT g a b :=
  rowsT_congr (fun z => by rw [diffM_mem, diffM_mem, List.count_cons, List.count_append, List.count_singleton]; omega)
    (fun z => by rw [diffM_mem, diffM_mem, List.count_cons, List.count_append, List.count_singleton]; omega)
/-- One more is greater. -/
theorem rowsT_more (g : Sg) (a : List T) (t : T) : rowsT g (t :: a) a = 1 := by
  have h1 : diffM (t :: a) a ≠ [] := fun e => by
    have : t ∈ diffM (t :: a) a := diffM_mem.2 (by rw [List.count_cons_self]; omega)
    rw [e] at this; simp at this
  have h2 : diffM a (t :: a) = [] := List.eq_nil_iff_forall_not_mem.2 fun z hz => by
    have := diffM_mem.1 hz
    rw [List.count_cons] at this; omega
  unfold rowsT
  rw [if_neg (fun h => h1 h.1), h2]
  simp [overT, h1]
/-- Rows of one term each. -/
theorem rowsT_one (g : Sg) (a b : T) : rowsT g [a] [b] = stand g a b := by
  unfold rowsT stand
  by_cases e : a = b
  · subst e; simp [diffM, T.same_self]
  · have e' : ¬ b = a := fun h => e h.symm
    rw [T.same_ne e]
    simp [diffM, e, e', overT]

end Go.Proofs.YtleohdddaadbeaaGreat
