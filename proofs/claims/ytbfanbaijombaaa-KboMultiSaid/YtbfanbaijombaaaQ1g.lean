/- Q1g: joined of Kb, Kb4. -/
import Derived.Test.YtbfanbaijombaaaQ1f
/- Knuth and Bendix's order in plain words. -/
namespace Go.Proofs.Ytbfanbaijombaaa
set_option linter.unusedVariables false
set_option linter.unusedSimpArgs false
open Go.RowKit

mutual
def T.same : T → T → Bool
  | .node h ts, .node k us => decide (h = k) && T.sameL ts us
def T.sameL : List T → List T → Bool
  | [], [] => true
  | t :: ts, u :: us => T.same t u && T.sameL ts us
  | [], _ :: _ => false
  | _ :: _, [] => false
end
mutual
theorem T.same_iff : (a b : T) → (T.same a b = true ↔ a = b)
  | .node h ts, .node k us => by
    have := T.sameL_iff ts us
    simp only [T.same, Bool.and_eq_true, decide_eq_true_eq, this, T.node.injEq]
theorem T.sameL_iff : (a b : List T) → (T.sameL a b = true ↔ a = b)
  | [], [] => by simp [T.sameL]
  | t :: ts, u :: us => by
    have h1 := T.same_iff t u
    have h2 := T.sameL_iff ts us
    simp only [T.sameL, Bool.and_eq_true, h1, h2, List.cons.injEq]
  | [], _ :: _ => by simp [T.sameL]
  | _ :: _, [] => by simp [T.sameL]
end
theorem T.same_self (a : T) : T.same a a = true := (T.same_iff a a).2 rfl
theorem T.same_ne {a b : T} (h : a ≠ b) : T.same a b = false := by
  cases hs : T.same a b
  · rfl
  · exact absurd ((T.same_iff a b).1 hs) h

/-- Has a each variable at least as often as b? -/
def oftB (a b : T) : Bool := b.hds.all fun h => !decide (h < 0) || decide (b.hds.count h ≤ a.hds.count h)
def Oft (a b : T) : Prop := ∀ h : Int, h < 0 → b.hds.count h ≤ a.hds.count h
theorem oft_iff {a b : T} : oftB a b = true ↔ Oft a b := by
  simp only [oftB, List.all_eq_true, Bool.or_eq_true, Bool.not_eq_true', decide_eq_false_iff_not, decide_eq_true_eq]
  constructor
  · intro h x hx
    by_cases hm : x ∈ b.hds
    · rcases h x hm with h | h
      · exact absurd hx h
      · exact h
    · rw [List.count_eq_zero.2 hm]; exact Nat.zero_le _
  · intro h x _
    by_cases hx : x < 0
    · exact .inr (h x hx)
    · exact .inl hx

mutual
def gtK (g : Sg) : T → T → Bool
  | .node h ts, b => oftB (.node h ts) b && (if wtT g (.node h ts) = wtT g b then !decide (h < 0) && (!decide (b.head < 0) && (if h = b.head then gtL g ts b.args else decide (b.head < h))) else decide (wtT g b < wtT g (.node h ts)))
def gtL (g : Sg) : List T → List T → Bool
  | t :: ts, u :: us => if T.same t u then gtL g ts us else gtK g t u
  | _, _ => false
end
theorem gtK_eq (g : Sg) (a b : T) : gtK g a b = (oftB a b && (if wtT g a = wtT g b then !decide (a.head < 0) && (!decide (b.head < 0) && (if a.head = b.head then gtL g a.args b.args else decide (b.head < a.head))) else decide (wtT g b < wtT g a))) := by
  cases a; rw [gtK]; rfl
theorem gtK_iff {g : Sg} {a b : T} : gtK g a b = true ↔ Oft a b ∧ (wtT g b < wtT g a ∨ (wtT g a = wtT g b ∧ 0 ≤ a.head ∧ 0 ≤ b.head ∧ (b.head < a.head ∨ (a.head = b.head ∧ gtL g a.args b.args = true)))) := by
  rw [gtK_eq, Bool.and_eq_true, oft_iff]
  refine and_congr_right fun _ => ?_
  by_cases hw : wtT g a = wtT g b
  · rw [if_pos hw]
    by_cases hh : a.head = b.head
    · rw [if_pos hh]
      simp only [Bool.and_eq_true, Bool.not_eq_true', decide_eq_false_iff_not]
      constructor
      · rintro ⟨h1, h2, h3⟩; exact .inr ⟨hw, by omega, by omega, .inr ⟨hh, h3⟩⟩
      · rintro (h | ⟨_, h1, h2, h3⟩)
        · omega
        · rcases h3 with h3 | h3
          · omega
          · exact ⟨by omega, by omega, h3.2⟩
    · rw [if_neg hh]
      simp only [Bool.and_eq_true, Bool.not_eq_true', decide_eq_false_iff_not, decide_eq_true_eq]
      constructor
      · rintro ⟨h1, h2, h3⟩; exact .inr ⟨hw, by omega, by omega, .inl h3⟩
      · rintro (h | ⟨_, h1, h2, h3⟩)
        · omega
        · rcases h3 with h3 | h3
          · exact ⟨by omega, by omega, h3⟩
          · exact absurd h3.1 hh
  · rw [if_neg hw, decide_eq_true_eq]
    constructor
    · exact .inl
    · rintro (h | h)
      · exact h
      · exact absurd h.1 hw

theorem gtL_self (g : Sg) (ts : List T) : gtL g ts ts = false := by
  induction ts with
  | nil => simp [gtL]
  | cons t ts ih => simp [gtL, T.same_self, ih]
theorem gtK_self (g : Sg) (a : T) : gtK g a a = false := by
  rw [gtK_eq]; simp [gtL_self]
theorem gtK_ne {g : Sg} {a b : T} (h : gtK g a b = true) : a ≠ b := fun e => by rw [e, gtK_self] at h; cases h
theorem gtL_trans {g : Sg} : ∀ {ts us vs : List T}, (∀ t ∈ ts, ∀ u v, gtK g t u = true → gtK g u v = true → gtK g t v = true) → gtL g ts us = true → gtL g us vs = true → gtL g ts vs = true
  | [], us, vs, _, h, _ => by simp [gtL] at h
  | t :: ts, [], vs, _, h, _ => by simp [gtL] at h
  | t :: ts, u :: us, [], _, _, h => by simp [gtL] at h
  | t :: ts, u :: us, v :: vs, hT, h1, h2 => by
    rw [gtL] at h1 h2 ⊢
    by_cases e1 : t = u
    · subst e1
      rw [T.same_self, if_pos rfl] at h1
      by_cases e2 : t = v
      · subst e2
        rw [T.same_self, if_pos rfl] at h2 ⊢
        exact gtL_trans (fun s hs => hT s (List.mem_cons_of_mem _ hs)) h1 h2
      · rw [T.same_ne e2, if_neg (by simp)] at h2 ⊢
        exact h2
    · rw [T.same_ne e1, if_neg (by simp)] at h1
      by_cases e2 : u = v
      · subst e2
        rw [T.same_ne e1, if_neg (by simp)]
        exact h1
      · rw [T.same_ne e2, if_neg (by simp)] at h2
        have h3 := hT t (List.mem_cons_self ..) u v h1 h2
        rw [T.same_ne (gtK_ne h3), if_neg (by simp)]
        exact h3
theorem gtK_trans {g : Sg} : ∀ (N : Nat) (a b c : T), a.size ≤ N → gtK g a b = true → gtK g b c = true → gtK g a c = true := by
  intro N
  induction N with
  | zero => intro a b c ha; have := T.size_pos a; omega
  | succ N ih =>
    intro a b c ha h1 h2
    obtain ⟨o1, p1⟩ := gtK_iff.1 h1
    obtain ⟨o2, p2⟩ := gtK_iff.1 h2
    refine gtK_iff.2 ⟨fun h hn => Nat.le_trans (o2 h hn) (o1 h hn), ?_⟩
    rcases p1 with p1 | ⟨w1, a1, b1, q1⟩
    · rcases p2 with p2 | ⟨w2, _⟩
      · exact .inl (by omega)
      · exact .inl (by omega)
    · rcases p2 with p2 | ⟨w2, b2, c2, q2⟩
      · exact .inl (by omega)
      · refine .inr ⟨by omega, a1, c2, ?_⟩
        rcases q1 with q1 | ⟨e1, l1⟩
        · rcases q2 with q2 | ⟨e2, _⟩
          · exact .inl (by omega)
          · exact .inl (by omega)
        · rcases q2 with q2 | ⟨e2, l2⟩
          · exact .inl (by omega)
          · refine .inr ⟨by omega, gtL_trans (fun t ht u v hu hv => ih t u v ?_ hu hv) l1 l2⟩
            have := size_mem ht; have := T.size_eq a; omega
theorem gtK_asym {g : Sg} {a b : T} (h : gtK g a b = true) : gtK g b a = false := by
  cases hb : gtK g b a
  · rfl
  · have := gtK_trans a.size a b a (Nat.le_refl _) h hb
    rw [gtK_self] at this; cases this
theorem gtK_wt {g : Sg} {a b : T} (h : gtK g a b = true) : wtT g b ≤ wtT g a := by
  obtain ⟨_, h | h⟩ := gtK_iff.1 h
  · omega
  · omega

/-! ### Terms without variables -/
def Grd (t : T) : Prop := ∀ h ∈ t.hds, 0 ≤ h
theorem Grd.arg {t s : T} (h : Grd t) (hs : s ∈ t.args) : Grd s := fun x hx => h x (by rw [T.hds_eq]; exact List.mem_cons_of_mem _ (hds_mem hs x hx))
theorem Grd.oft {a b : T} (h : Grd b) : Oft a b := fun x hx => by
  rw [List.count_eq_zero.2 (fun hm => by have := h x hm; omega)]; exact Nat.zero_le _
theorem gtL_total {g : Sg} : ∀ {ts us : List T}, ts.length = us.length → (∀ t ∈ ts, ∀ u ∈ us, t ≠ u → gtK g t u = true ∨ gtK g u t = true) → ts ≠ us → gtL g ts us = true ∨ gtL g us ts = true
  | [], [], _, _, h => absurd rfl h
  | [], _ :: _, h, _, _ => by simp at h
  | _ :: _, [], h, _, _ => by simp at h
  | t :: ts, u :: us, hl, hT, hne => by
    rw [gtL, gtL]
    by_cases e : t = u
    · subst e
      rw [T.same_self, if_pos rfl, if_pos rfl]
      exact gtL_total (by simpa using hl) (fun s hs v hv => hT s (List.mem_cons_of_mem _ hs) v (List.mem_cons_of_mem _ hv)) (fun e => hne (by rw [e]))
    · rw [T.same_ne e, T.same_ne (fun h => e h.symm), if_neg (by simp), if_neg (by simp)]
      exact hT t (List.mem_cons_self ..) u (List.mem_cons_self ..) e
theorem fits_arity {g : Sg} {a b : T} (ha : fitsT g a = true) (hb : fitsT g b = true) (h0 : 0 ≤ a.head) (h : a.head = b.head) : a.args.length = b.args.length := by
  rw [fitsT_eq] at ha hb
  simp only [show ¬ a.head < 0 from by omega, show ¬ b.head < 0 from by omega, decide_false, Bool.false_or, Bool.and_eq_true, armOk] at ha hb
  rw [h] at ha
  obtain ⟨h1, _⟩ := ha
  obtain ⟨h2, _⟩ := hb
  cases hx : g[b.head.toNat]? with
  | none => rw [hx] at h1; simp at h1
  | some x =>
    rw [hx] at h1 h2
    simp only [decide_eq_true_eq] at h1 h2
    omega
theorem gtK_total {g : Sg} : ∀ (N : Nat) (a b : T), a.size ≤ N → OkT g a → OkT g b → Grd a → Grd b → a ≠ b → gtK g a b = true ∨ gtK g b a = true := by
  intro N
  induction N with
  | zero => intro a b ha; have := T.size_pos a; omega
  | succ N ih =>
    intro a b ha oa ob ga gb hne
    have ha0 : 0 ≤ a.head := ga _ (by rw [T.hds_eq]; simp)
    have hb0 : 0 ≤ b.head := gb _ (by rw [T.hds_eq]; simp)
    rcases Int.lt_trichotomy (wtT g a) (wtT g b) with hw | hw | hw
    · exact .inr (gtK_iff.2 ⟨ga.oft, .inl hw⟩)
    · rcases Int.lt_trichotomy a.head b.head with hh | hh | hh
      · exact .inr (gtK_iff.2 ⟨ga.oft, .inr ⟨hw.symm, hb0, ha0, .inl hh⟩⟩)
      · have hl := fits_arity oa.2.1 ob.2.1 ha0 hh
        have hna : a.args ≠ b.args := fun e => hne (by rw [← T.eta a, ← T.eta b, hh, e])
        rcases gtL_total hl (fun t ht u hu hn => ih t u (by have := size_mem ht; have := T.size_eq a; omega) (oa.arg ht) (ob.arg hu) (ga.arg ht) (gb.arg hu) hn) hna with h | h
        · exact .inl (gtK_iff.2 ⟨gb.oft, .inr ⟨hw, ha0, hb0, .inr ⟨hh, h⟩⟩⟩)
        · exact .inr (gtK_iff.2 ⟨ga.oft, .inr ⟨hw.symm, hb0, ha0, .inr ⟨hh.symm, h⟩⟩⟩)
      · exact .inl (gtK_iff.2 ⟨gb.oft, .inr ⟨hw, ha0, hb0, .inl hh⟩⟩)
    · exact .inl (gtK_iff.2 ⟨gb.oft, .inl hw⟩)

/-! ### Parts -/
theorem hds_count_arg {h : Int} {t s : T} (hs : s ∈ t.args) : s.hds.count h ≤ t.hds.count h := by
  rw [T.hds_eq t, List.count_cons]
  have : s.hds.count h ≤ (T.hdsL t.args).count h := by
    generalize t.args = ts at hs
    induction ts with
    | nil => simp at hs
    | cons u ts ih =>
      simp only [T.hdsL, List.count_append]
      rcases List.mem_cons.1 hs with rfl | hs
      · omega
      · have := ih hs; omega
  omega
theorem oft_part : ∀ {p : List Int} {t u : T}, t.at p = some u → Oft t u
  | [], t, u, h => by simp [T.at] at h; subst h; exact fun _ _ => Nat.le_refl _
  | i :: p, t, u, h => by
    simp only [T.at] at h
    split at h
    · cases h
    · cases hx : t.args[i.toNat]? with
      | none => rw [hx] at h; cases h
      | some x =>
        rw [hx] at h
        exact fun z hz => Nat.le_trans (oft_part h z hz) (hds_count_arg (List.mem_of_getElem? hx))
theorem gtK_part {g : Sg} (hr : rightG g = true) {p : List Int} {t u : T} (ht : OkT g t) (h : t.at p = some u) (hp : p ≠ []) : gtK g t u = true :=
  gtK_iff.2 ⟨oft_part h, .inl ((part_ok hr ht h).2.2 hp)⟩

/-! ### How two stand -/
def stand (g : Sg) (a b : T) : Int := if T.same a b then 0 else if gtK g a b then 1 else if gtK g b a then -1 else 2
theorem stand_zero {g : Sg} {a b : T} : stand g a b = 0 ↔ a = b := by
  unfold stand
  constructor
  · intro h
    by_cases e : a = b
    · exact e
    · rw [T.same_ne e, if_neg (by simp)] at h
      split at h
      · cases h
      · split at h <;> cases h
  · rintro rfl; rw [T.same_self, if_pos rfl]
theorem stand_more {g : Sg} {a b : T} : stand g a b = 1 ↔ gtK g a b = true := by
  unfold stand
  constructor
  · intro h
    split at h
    · cases h
    · split at h
      · assumption
      · split at h <;> cases h
  · intro h
    rw [T.same_ne (gtK_ne h), if_neg (by simp), if_pos h]
theorem stand_less {g : Sg} {a b : T} : stand g a b = -1 ↔ gtK g b a = true := by
  unfold stand
  constructor
  · intro h
    split at h
    · cases h
    · split at h
      · cases h
      · split at h
        · assumption
        · cases h
  · intro h
    rw [T.same_ne (fun e => gtK_ne h e.symm), if_neg (by simp), gtK_asym h, if_neg (by simp), if_pos h]
theorem stand_cases (g : Sg) (a b : T) : (stand g a b = 0 ∧ a = b) ∨ (stand g a b = 1 ∧ gtK g a b = true) ∨ (stand g a b = -1 ∧ gtK g b a = true) ∨ (stand g a b = 2 ∧ a ≠ b ∧ gtK g a b = false ∧ gtK g b a = false) := by
  unfold stand
  by_cases e : a = b
  · subst e; rw [T.same_self, if_pos rfl]; exact .inl ⟨rfl, rfl⟩
  · rw [T.same_ne e, if_neg (by simp)]
    cases h1 : gtK g a b
    · cases h2 : gtK g b a
      · exact .inr (.inr (.inr ⟨rfl, e, rfl, rfl⟩))
      · exact .inr (.inr (.inl ⟨rfl, rfl⟩))
    · exact .inr (.inl ⟨rfl, rfl⟩)

end Go.Proofs.Ytbfanbaijombaaa

/- Plain facts that tie the order to the way in which the document's answer reckons it. -/
namespace Go.Proofs.Ytbfanbaijombaaa
set_option linter.unusedVariables false
set_option linter.unusedSimpArgs false
open Go.RowKit

/-- Each symbol is the first of its name just if no two have one name. -/
theorem difSg_iff {g : Sg} : difSg g = true ↔ ∀ (i k : Nat) (x y : Sy), k < i → g[i]? = some x → g[k]? = some y → y.name ≠ x.name := by
  constructor
  · intro h i k x y hk hi hy e
    have hl := (List.getElem?_eq_some_iff.1 hi).1
    have h1 := List.all_eq_true.1 h i (List.mem_range.2 hl)
    rw [hi] at h1
    simp only [decide_eq_true_eq] at h1
    obtain ⟨_, _, _, h4⟩ := idxSy_get h1
    exact h4 k y hk hy e
  · intro h
    refine List.all_eq_true.2 fun i hi => ?_
    have hl := List.mem_range.1 hi
    have hx := List.getElem?_eq_getElem hl
    rw [hx]
    simp only [decide_eq_true_eq]
    exact idxSy_hit (fun j y hj hy => h i j _ y hj hx hy) hx rfl
/-- No two of the first k have one name. -/
def difK (g : Sg) (k : Nat) : Prop := ∀ (i j : Nat) (x y : Sy), i < k → j < i → g[i]? = some x → g[j]? = some y → y.name ≠ x.name
theorem difK_all {g : Sg} : difK g g.length ↔ difSg g = true := by
  rw [difSg_iff]
  constructor
  · intro h i k x y hk hi hy
    exact h i k x y (List.getElem?_eq_some_iff.1 hi).1 hk hi hy
  · intro h i j x y _ hj hi hy
    exact h i j x y hj hi hy
theorem difK_step {g : Sg} {k : Nat} {x : Sy} (hx : g[k]? = some x) : difK g (k + 1) ↔ difK g k ∧ ∀ (j : Nat) (y : Sy), j < k → g[j]? = some y → y.name ≠ x.name := by
  constructor
  · intro h
    exact ⟨fun i j a b hi hj ha hb => h i j a b (by omega) hj ha hb, fun j y hj hy => h k j x y (by omega) hj hx hy⟩
  · rintro ⟨h1, h2⟩ i j a b hi hj ha hb
    by_cases e : i = k
    · subst e
      rw [hx] at ha
      obtain rfl := Option.some.inj ha
      exact h2 j b hj hb
    · exact h1 i j a b (by omega) hj ha hb

/-! ### Heads, by loops over arguments -/
theorem hdsL_flat (ts : List T) : T.hdsL ts = (ts.map T.hds).flatten := by
  induction ts with
  | nil => rfl
  | cons t ts ih => simp [T.hdsL, ih]
theorem hds_unique {F : T → List Int} (hF : ∀ t, F t = t.head :: (t.args.map F).flatten) : ∀ (N : Nat) (t : T), t.size ≤ N → F t = t.hds := by
  intro N
  induction N with
  | zero => intro t ht; have := T.size_pos t; omega
  | succ N ih =>
    intro t ht
    rw [hF, T.hds_eq, hdsL_flat]
    congr 2
    exact List.map_congr_left fun s hs => ih s (by have := size_mem hs; have := T.size_eq t; omega)
theorem hdsL_append (a b : List T) : T.hdsL (a ++ b) = T.hdsL a ++ T.hdsL b := by simp [hdsL_flat]
theorem hdsL_take {ts : List T} {k : Nat} {s : T} (h : ts[k]? = some s) : T.hdsL (ts.take (k + 1)) = T.hdsL (ts.take k) ++ s.hds := by
  obtain ⟨hi, e⟩ := List.getElem?_eq_some_iff.1 h
  rw [List.take_succ_eq_append_getElem hi, hdsL_append, e]
  simp [T.hdsL]
theorem wtL_append (g : Sg) (a b : List T) : wtL g (a ++ b) = wtL g a + wtL g b := by
  induction a with
  | nil => simp [wtL]
  | cons t a ih => simp [wtL, ih]; omega
theorem wtL_take {g : Sg} {ts : List T} {k : Nat} {s : T} (h : ts[k]? = some s) : wtL g (ts.take (k + 1)) = wtL g (ts.take k) + wtT g s := by
  obtain ⟨hi, e⟩ := List.getElem?_eq_some_iff.1 h
  rw [List.take_succ_eq_append_getElem hi, wtL_append, e]
  simp [wtL]
theorem fitsL_take {g : Sg} {ts : List T} {k : Nat} {s : T} (h : ts[k]? = some s) : fitsL g (ts.take (k + 1)) = (fitsL g (ts.take k) && fitsT g s) := by
  obtain ⟨hi, e⟩ := List.getElem?_eq_some_iff.1 h
  rw [List.take_succ_eq_append_getElem hi, fitsL_all, fitsL_all, List.all_append, e]
  simp
theorem fitsL_bad {g : Sg} {ts : List T} {k : Nat} {s : T} (h : ts[k]? = some s) (hf : fitsT g s = false) : fitsL g ts = false := by
  rw [fitsL_all, List.all_eq_false]
  exact ⟨s, List.mem_of_getElem? h, by simp [hf]⟩
theorem predL_take {g : Sg} {ts : List T} {k : Nat} {s : T} (h : ts[k]? = some s) : predL g (ts.take (k + 1)) = (predL g (ts.take k) || predT g s) := by
  obtain ⟨hi, e⟩ := List.getElem?_eq_some_iff.1 h
  rw [List.take_succ_eq_append_getElem hi, predL_any, predL_any, List.any_append, e]
  simp
theorem predL_hit {g : Sg} {ts : List T} {k : Nat} {s : T} (h : ts[k]? = some s) (hp : predT g s = true) : predL g ts = true := by
  rw [predL_any, List.any_eq_true]
  exact ⟨s, List.mem_of_getElem? h, hp⟩

/-! ### Variables -/
def IsVars (vs : List Int) (t : T) : Prop := ∀ v, v ∈ vs ↔ ∃ x ∈ t.hds, x < 0 ∧ v = -1 - x
theorem oft_vars {a b : T} {vs : List Int} (h : IsVars vs b) : Oft a b ↔ ∀ v ∈ vs, b.hds.count (-1 - v) ≤ a.hds.count (-1 - v) := by
  constructor
  · intro o v hv
    obtain ⟨x, _, hx, rfl⟩ := (h v).1 hv
    exact o _ (by omega)
  · intro o z hz
    by_cases hm : z ∈ b.hds
    · have := o (-1 - z) ((h _).2 ⟨z, hm, hz, rfl⟩)
      rwa [show -1 - (-1 - z) = z from by omega] at this
    · rw [List.count_eq_zero.2 hm]; exact Nat.zero_le _
theorem grd_vars {t : T} {vs : List Int} (h : IsVars vs t) : vs = [] ↔ Grd t := by
  constructor
  · rintro rfl x hx
    by_cases q : x < 0
    · have := (h (-1 - x)).2 ⟨x, hx, q, rfl⟩
      simp at this
    · omega
  · intro hg
    refine List.eq_nil_iff_forall_not_mem.2 fun v hv => ?_
    obtain ⟨x, hx, q, _⟩ := (h v).1 hv
    have := hg x hx
    omega

/-! ### The first arguments that are not the same -/
theorem gtL_take {g : Sg} : ∀ {ts us : List T} {k : Nat}, ts.take k = us.take k → ts.length = us.length → gtL g ts us = gtL g (ts.drop k) (us.drop k)
  | ts, us, 0, _, _ => by simp
  | [], [], k + 1, _, _ => by simp
  | [], _ :: _, k + 1, _, hl => by simp at hl
  | _ :: _, [], k + 1, _, hl => by simp at hl
  | t :: ts, u :: us, k + 1, h, hl => by
    simp only [List.take_succ_cons, List.cons.injEq] at h
    obtain ⟨rfl, h⟩ := h
    rw [gtL, T.same_self, if_pos rfl]
    simp only [List.drop_succ_cons]
    exact gtL_take h (by simpa using hl)
theorem gtL_at {g : Sg} {ts us : List T} {k : Nat} {t u : T} (h : ts.take k = us.take k) (hl : ts.length = us.length) (ht : ts[k]? = some t) (hu : us[k]? = some u) (hne : t ≠ u) : gtL g ts us = gtK g t u := by
  rw [gtL_take h hl]
  obtain ⟨h1, e1⟩ := List.getElem?_eq_some_iff.1 ht
  obtain ⟨h2, e2⟩ := List.getElem?_eq_some_iff.1 hu
  rw [List.drop_eq_getElem_cons h1, List.drop_eq_getElem_cons h2, e1, e2, gtL, T.same_ne hne, if_neg (by simp)]
theorem gtL_end {g : Sg} {ts us : List T} (h : ts.take ts.length = us.take ts.length) (hl : ts.length = us.length) : gtL g ts us = false := by
  have : ts = us := by rw [List.take_length, hl, List.take_length] at h; exact h
  rw [this, gtL_self]

end Go.Proofs.Ytbfanbaijombaaa
