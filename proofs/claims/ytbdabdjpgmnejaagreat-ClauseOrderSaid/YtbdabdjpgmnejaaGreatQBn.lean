/- QBn: joined of Kb2, Kb6, St1, Kb7, RCk. -/
import Derived.Test.YtbdabdjpgmnejaaGreatQBi
import Derived.Test.YtbdabdjpgmnejaaGreatQBm
import Derived.Test.YtbdabdjpgmnejaaGreatQBd
import Derived.Test.YtbdabdjpgmnejaaGreatQBg
import Derived.Test.YtbdabdjpgmnejaaGreatQBf
import Derived.Test.YtbdabdjpgmnejaaGreatQBk
import Derived.Test.YtbdabdjpgmnejaaGreatQBc
/- Knuth and Bendix's order: within terms, and with terms put. -/
namespace Go.Proofs.YtbdabdjpgmnejaaGreat
set_option linter.unusedVariables false
set_option linter.unusedSimpArgs false
open Go.RowKit

theorem sumA_perm (f : Int → Int) {a b : List Int} (h : a.Perm b) : sumA f a = sumA f b := by
  induction h with
  | nil => rfl
  | cons x _ ih => simp [sumA, ih]
  | swap x y l => simp [sumA]; omega
  | trans _ _ h1 h2 => rw [h1, h2]

/-! ### A term in another one -/
theorem hdsL_modify (F : T → T) (z : Int) : ∀ {ts : List T} {k : Nat} {s : T}, ts[k]? = some s → (T.hdsL (ts.modify k F)).count z + s.hds.count z = (T.hdsL ts).count z + (F s).hds.count z
  | [], k, s, h => by simp at h
  | t :: ts, 0, s, h => by
    simp at h; subst h
    simp [T.hdsL, List.count_append]; omega
  | t :: ts, k + 1, s, h => by
    have := hdsL_modify F z (ts := ts) (k := k) (s := s) (by simpa using h)
    simp only [List.modify_succ_cons, T.hdsL, List.count_append]
    omega
theorem put_count (a : T) (z : Int) : ∀ {p : List Int} {t x : T}, t.at p = some x → (t.put a p).hds.count z + x.hds.count z = t.hds.count z + a.hds.count z
  | [], t, x, h => by simp [T.at] at h; subst h; simp [T.put]; omega
  | i :: p, t, x, h => by
    simp only [T.at] at h
    split at h
    · cases h
    · cases hx : t.args[i.toNat]? with
      | none => rw [hx] at h; cases h
      | some s =>
        rw [hx] at h
        have h1 := put_count a z (p := p) (t := s) (x := x) h
        have h2 := hdsL_modify (fun s => s.put a p) z hx
        simp only [T.put]
        rw [T.hds_eq t, T.hds]
        simp only [List.count_cons]
        omega
theorem put_sum (a : T) (f : Int → Int) {p : List Int} {t x : T} (h : t.at p = some x) : sumA f (t.put a p).hds + sumA f x.hds = sumA f t.hds + sumA f a.hds := by
  rw [← sumA_append, ← sumA_append]
  exact sumA_perm f (List.perm_iff_count.2 fun z => by rw [List.count_append, List.count_append]; exact put_count a z h)
theorem gtL_modify {g : Sg} {F G : T → T} : ∀ {ts : List T} {k : Nat} {s : T}, ts[k]? = some s → gtL g (ts.modify k F) (ts.modify k G) = gtK g (F s) (G s)
  | [], k, s, h => by simp at h
  | t :: ts, 0, s, h => by
    simp at h; subst h
    simp only [List.modify_zero_cons, gtL]
    by_cases e : F t = G t
    · rw [e, T.same_self, if_pos rfl, gtL_self, gtK_self]
    · rw [T.same_ne e, if_neg (by simp)]
  | t :: ts, k + 1, s, h => by
    simp only [List.modify_succ_cons, gtL, T.same_self, if_true]
    exact gtL_modify (by simpa using h)
theorem gtK_put {g : Sg} (a b : T) : ∀ {p : List Int} {t x : T}, t.at p = some x → bad (T.subs 1 (t.put a p)) = false → gtK g (t.put a p) (t.put b p) = gtK g a b
  | [], t, x, h, hb => by simp [T.put]
  | i :: p, t, x, h, hb => by
    have hat := h
    simp only [T.at] at h
    split at h
    · cases h
    · cases hx : t.args[i.toNat]? with
      | none => rw [hx] at h; cases h
      | some s =>
        rw [hx] at h
        have hk := (List.getElem?_eq_some_iff.1 hx).1
        have hsa : (t.put a (i :: p)).args[i.toNat]? = some (s.put a p) := by
          simp only [T.put, T.args_node]
          simp [hx]
        have ih := gtK_put (g := g) a b (p := p) (t := s) (x := x) h (good_arg hb hsa)
        have hh : 0 ≤ t.head := by
          by_cases q : (t.put a (i :: p)).head < 0
          · have := good_var hb q
            rw [this] at hsa; simp at hsa
          · simpa [T.put, T.head] using q
        have hL : gtL g (t.put a (i :: p)).args (t.put b (i :: p)).args = gtK g a b := by
          simp only [T.put, T.args_node]
          rw [gtL_modify hx]; exact ih
        have ha : (t.put a (i :: p)).head = t.head := rfl
        have hbh : (t.put b (i :: p)).head = t.head := rfl
        have hO : Oft (t.put a (i :: p)) (t.put b (i :: p)) ↔ Oft a b := by
          constructor
          · intro o z hz
            have h1 := put_count a z hat; have h2 := put_count b z hat; have h3 := o z hz; omega
          · intro o z hz
            have h1 := put_count a z hat; have h2 := put_count b z hat; have h3 := o z hz; omega
        have w1 := put_sum a (wo g) hat
        have w2 := put_sum b (wo g) hat
        simp only [sumA_hds] at w1 w2
        rw [Bool.eq_iff_iff, gtK_iff, hO, hL, ha, hbh]
        constructor
        · rintro ⟨o, h | ⟨hw, _, _, h | h⟩⟩
          · exact gtK_iff.2 ⟨o, .inl (by omega)⟩
          · omega
          · exact h.2
        · intro h
          refine ⟨(gtK_iff.1 h).1, ?_⟩
          have := gtK_wt h
          by_cases hw : wtT g a = wtT g b
          · exact .inr ⟨by omega, hh, hh, .inr ⟨rfl, h⟩⟩
          · exact .inl (by omega)
theorem put_at (a : T) : ∀ {p : List Int} {t x : T}, t.at p = some x → (t.put a p).at p = some a
  | [], t, x, h => by simp [T.put, T.at]
  | i :: p, t, x, h => by
    simp only [T.at] at h
    split at h
    · cases h
    · rename_i hi
      cases hx : t.args[i.toNat]? with
      | none => rw [hx] at h; cases h
      | some s =>
        rw [hx] at h
        have := put_at a (p := p) (t := s) (x := x) h
        simp only [T.put, T.at, T.args_node, List.length_modify]
        rw [if_neg hi]
        simp [hx, this]
theorem stand_put {g : Sg} {a b t x : T} {p : List Int} (h : t.at p = some x) (h1 : bad (T.subs 1 (t.put a p)) = false) (h2 : bad (T.subs 1 (t.put b p)) = false) : stand g (t.put a p) (t.put b p) = stand g a b := by
  unfold stand
  rw [gtK_put a b h h1, gtK_put b a h h2]
  have : T.same (t.put a p) (t.put b p) = T.same a b := by
    by_cases e : a = b
    · subst e; rw [T.same_self, T.same_self]
    · rw [T.same_ne e, T.same_ne (fun h' => e ?_)]
      have ha := put_at a h
      have hb := put_at b h
      rw [h', hb] at ha
      exact (Option.some.inj ha).symm
  rw [this]

/-! ### Terms put for variables -/
theorem sumAL_map {f : Int → T} {ψ φ : Int → Int} {ts : List T} (h : ∀ s ∈ ts, sumA ψ (s.sub f).hds = sumA φ s.hds) : sumA ψ (T.hdsL (ts.map (T.sub f))) = sumA φ (T.hdsL ts) := by
  induction ts with
  | nil => rfl
  | cons t ts ih =>
    simp only [List.map_cons, T.hdsL, sumA_append]
    rw [h t (List.mem_cons_self ..), ih (fun s hs => h s (List.mem_cons_of_mem _ hs))]
/-- What a sum over the heads is, when terms are put. -/
theorem sumA_sub (f : Int → T) (ψ : Int → Int) : ∀ (N : Nat) (t : T), t.size ≤ N → bad (T.subs 1 t) = false → sumA ψ (t.sub f).hds = sumA (fun h => if h < 0 then sumA ψ (f (-1 - h)).hds else ψ h) t.hds := by
  intro N
  induction N with
  | zero => intro t ht; have := T.size_pos t; omega
  | succ N ih =>
    intro t ht hb
    by_cases q : t.head < 0
    · rw [T.sub_neg q, T.hds_eq t, good_var hb q]
      simp [sumA, T.hdsL, q]
    · rw [T.sub_pos q, T.hds_eq t, T.hds]
      simp only [sumA, q, if_false]
      rw [sumAL_map (fun s hs => by
        obtain ⟨k, hk⟩ := List.getElem?_of_mem hs
        exact ih s (by have := size_mem hs; have := T.size_eq t; omega) (good_arg hb hk))]
def ind (z h : Int) : Int := if h = z then 1 else 0
theorem count_sum (z : Int) : ∀ (L : List Int), ((L.count z : Nat) : Int) = sumA (ind z) L
  | [] => by simp [sumA]
  | h :: L => by
    rw [List.count_cons]
    simp only [sumA, ind, ← count_sum z L]
    by_cases e : h = z
    · subst e; simp; omega
    · have : (h == z) = false := by simpa using e
      simp [this, e]
theorem sumA_mono {φ : Int → Int} (h0 : ∀ h, 0 ≤ h → φ h = 0) : ∀ (B A : List Int), (∀ h ∈ A, h < 0 → 0 ≤ φ h) → (∀ h, h < 0 → B.count h ≤ A.count h) → sumA φ B ≤ sumA φ A
  | [], A, h1, _ => by
    simp only [sumA]
    exact sumA_nonneg (fun h hm => by
      by_cases q : h < 0
      · exact h1 h hm q
      · rw [h0 h (by omega)]; exact Int.le_refl _)
  | h :: B, A, h1, ho => by
    simp only [sumA]
    by_cases q : h < 0
    · have hm : h ∈ A := List.count_pos_iff.1 (by have := ho h q; rw [List.count_cons_self] at this; omega)
      have hp := List.perm_cons_erase hm
      rw [sumA_perm φ hp]
      simp only [sumA]
      have := sumA_mono h0 B (A.erase h) (fun z hz => h1 z (List.mem_of_mem_erase hz)) (fun z hz => by
        have h2 := ho z hz
        have h3 := hp.count_eq z
        rw [List.count_cons] at h2 h3
        omega)
      omega
    · rw [h0 h (by omega)]
      have := sumA_mono h0 B A h1 (fun z hz => by
        have h2 := ho z hz
        rw [List.count_cons] at h2
        omega)
      omega
theorem oft_sub {f : Int → T} {a b : T} (ha : bad (T.subs 1 a) = false) (hb : bad (T.subs 1 b) = false) (h : Oft a b) : Oft (a.sub f) (b.sub f) := by
  intro z hz
  have e1 := sumA_sub f (ind z) a.size a (Nat.le_refl _) ha
  have e2 := sumA_sub f (ind z) b.size b (Nat.le_refl _) hb
  rw [← count_sum] at e1 e2
  have := sumA_mono (φ := fun h => if h < 0 then sumA (ind z) (f (-1 - h)).hds else ind z h) (fun h hh => by
    simp only [show ¬ h < 0 from by omega, if_false, ind, show ¬ h = z from by omega]) b.hds a.hds (fun h _ hh => by
    simp only [hh, if_true]; rw [← count_sum]; exact Int.natCast_nonneg _) h
  omega
theorem wt_sub {g : Sg} {f : Int → T} {t : T} (hb : bad (T.subs 1 t) = false) : wtT g (t.sub f) = wtT g t + sumA (fun h => if h < 0 then wtT g (f (-1 - h)) - 1 else 0) t.hds := by
  rw [← sumA_hds g (t.sub f), sumA_sub f (wo g) t.size t (Nat.le_refl _) hb, ← sumA_hds g t]
  generalize t.hds = L
  induction L with
  | nil => simp [sumA]
  | cons h L ih =>
    simp only [sumA, ih]
    by_cases q : h < 0
    · simp only [q, if_true, sumA_hds, wo]; omega
    · simp only [q, if_false]; omega
theorem gtL_map {g : Sg} {f : Int → T} : ∀ {ts us : List T}, (∀ t ∈ ts, ∀ u ∈ us, gtK g t u = true → gtK g (t.sub f) (u.sub f) = true) → gtL g ts us = true → gtL g (ts.map (T.sub f)) (us.map (T.sub f)) = true
  | [], us, _, h => by simp [gtL] at h
  | t :: ts, [], _, h => by simp [gtL] at h
  | t :: ts, u :: us, hT, h => by
    rw [gtL] at h
    simp only [List.map_cons]
    rw [gtL]
    by_cases e : t = u
    · subst e
      rw [T.same_self, if_pos rfl] at h ⊢
      exact gtL_map (fun s hs v hv => hT s (List.mem_cons_of_mem _ hs) v (List.mem_cons_of_mem _ hv)) h
    · rw [T.same_ne e, if_neg (by simp)] at h
      have h2 := hT t (List.mem_cons_self ..) u (List.mem_cons_self ..) h
      rw [T.same_ne (gtK_ne h2), if_neg (by simp)]
      exact h2
theorem gtK_sub {g : Sg} {f : Int → T} : ∀ (N : Nat) (a b : T), a.size ≤ N → (∀ h ∈ a.hds, h < 0 → 1 ≤ wtT g (f (-1 - h))) → bad (T.subs 1 a) = false → bad (T.subs 1 b) = false → gtK g a b = true → gtK g (a.sub f) (b.sub f) = true := by
  intro N
  induction N with
  | zero => intro a b ha; have := T.size_pos a; omega
  | succ N ih =>
    intro a b hN hf ha hb h
    obtain ⟨o, p⟩ := gtK_iff.1 h
    have w1 := wt_sub (g := g) (f := f) ha
    have w2 := wt_sub (g := g) (f := f) hb
    have hm := sumA_mono (φ := fun h => if h < 0 then wtT g (f (-1 - h)) - 1 else 0) (fun h hh => by simp only [show ¬ h < 0 from by omega, if_false]) b.hds a.hds (fun h hm hh => by simp only [hh, if_true]; have := hf h hm hh; omega) o
    have hw := gtK_wt h
    refine gtK_iff.2 ⟨oft_sub ha hb o, ?_⟩
    by_cases he : wtT g (a.sub f) = wtT g (b.sub f)
    · rcases p with p | ⟨wq, a0, b0, q⟩
      · omega
      · have ea : (a.sub f) = .node a.head (a.args.map (T.sub f)) := T.sub_pos (by omega)
        have eb : (b.sub f) = .node b.head (b.args.map (T.sub f)) := T.sub_pos (by omega)
        refine .inr ⟨he, by rw [ea]; exact a0, by rw [eb]; exact b0, ?_⟩
        rw [ea, eb]
        rcases q with q | ⟨q1, q2⟩
        · exact .inl q
        · refine .inr ⟨q1, gtL_map (fun t ht u hu hgt => ?_) q2⟩
          obtain ⟨i, hi⟩ := List.getElem?_of_mem ht
          obtain ⟨j, hj⟩ := List.getElem?_of_mem hu
          exact ih t u (by have := size_mem ht; have := T.size_eq a; omega) (fun x hx => hf x (by rw [T.hds_eq a]; exact List.mem_cons_of_mem _ (hds_mem ht x hx))) (good_arg ha hi) (good_arg hb hj) hgt
    · exact .inl (by omega)

end Go.Proofs.YtbdabdjpgmnejaaGreat

/- Literals and clauses compared, in plain words. -/
namespace Go.Proofs.YtbdabdjpgmnejaaGreat
set_option linter.unusedVariables false
set_option linter.unusedSimpArgs false
open Go.RowKit

structure Lt3 where
  neg : Bool
  l : T
  r : T
  deriving DecidableEq
def Lt3.row (x : Lt3) : List T := rowL x.neg x.l x.r
/-- The same literal, its sides in either order. -/
def sameL (a b : Lt3) : Prop := a.neg = b.neg ∧ sidesT a.l a.r b.l b.r
theorem sidesT.symm {l r l' r' : T} (h : sidesT l r l' r') : sidesT l' r' l r := by
  rcases h with ⟨rfl, rfl⟩ | ⟨rfl, rfl⟩
  · exact .inl ⟨rfl, rfl⟩
  · exact .inr ⟨rfl, rfl⟩
theorem sidesT.trans {l r l' r' l2 r2 : T} (h : sidesT l r l' r') (k : sidesT l' r' l2 r2) : sidesT l r l2 r2 := by
  rcases h with ⟨rfl, rfl⟩ | ⟨rfl, rfl⟩
  · exact k
  · rcases k with ⟨rfl, rfl⟩ | ⟨rfl, rfl⟩
    · exact .inr ⟨rfl, rfl⟩
    · exact .inl ⟨rfl, rfl⟩
theorem sameL.refl (a : Lt3) : sameL a a := ⟨rfl, .inl ⟨rfl, rfl⟩⟩
theorem sameL.symm {a b : Lt3} (h : sameL a b) : sameL b a := ⟨h.1.symm, h.2.symm⟩
theorem sameL.trans {a b c : Lt3} (h : sameL a b) (k : sameL b c) : sameL a c := ⟨h.1.trans k.1, h.2.trans k.2⟩
theorem sameL_iff {a b : Lt3} : sameL a b ↔ ∀ x, a.row.count x = b.row.count x := rowL_eq.symm

/-- One literal for all that are the same. -/
noncomputable def repL (a : Lt3) : Lt3 := @Classical.epsilon Lt3 ⟨a⟩ (fun x => sameL x a)
theorem repL_same (a : Lt3) : sameL (repL a) a := @Classical.epsilon_spec Lt3 (fun x => sameL x a) ⟨a, sameL.refl a⟩
theorem repL_eq {a b : Lt3} : repL a = repL b ↔ sameL a b := by
  constructor
  · intro h
    have h1 := (repL_same a).symm
    rw [h] at h1
    exact h1.trans (repL_same b)
  · intro h
    have : (fun x => sameL x a) = (fun x => sameL x b) := funext fun x => propext ⟨fun k => k.trans h, fun k => k.trans h.symm⟩
    unfold repL
    rw [this]

def GtLit (g : Sg) (a b : Lt3) : Prop := gtMs (GtK g) a.row b.row
theorem GtLit.irrefl (g : Sg) (a : Lt3) : ¬ GtLit g a a := gtMs_irrefl _
theorem GtLit.trans {g : Sg} {a b c : Lt3} (h : GtLit g a b) (k : GtLit g b c) : GtLit g a c := gtMs_trans (GtK.irrefl g) (fun _ _ _ => GtK.trans) h k
theorem GtLit.congr {g : Sg} {a b a' b' : Lt3} (ha : sameL a a') (hb : sameL b b') : GtLit g a b ↔ GtLit g a' b' := gtMs_congr (sameL_iff.1 ha) (sameL_iff.1 hb)
theorem GtLit.rep {g : Sg} {a b : Lt3} : GtLit g (repL a) (repL b) ↔ GtLit g a b := GtLit.congr (repL_same a) (repL_same b)
theorem GtLit.neg {g : Sg} {a b : Lt3} (ha : a.neg = true) (hb : b.neg = false) (h : sidesT a.l a.r b.l b.r) : GtLit g a b := by
  unfold GtLit Lt3.row
  rw [ha, hb]
  exact rowL_neg h
theorem rowL_mem {n : Bool} {l r x : T} : x ∈ rowL n l r ↔ x = l ∨ x = r := by
  cases n <;> simp [rowL]
/-- Where one of two terms without variables is greater, so is one of two literals. -/
theorem GtLit.total {g : Sg} {a b : Lt3} (h : ∀ t, (t = a.l ∨ t = a.r ∨ t = b.l ∨ t = b.r) → OkT g t ∧ Grd t) : GtLit g a b ∨ GtLit g b a ∨ sameL a b := by
  have := gtMs_total (R := GtK g) (a := a.row) (b := b.row) (GtK.irrefl g) (fun _ _ _ => GtK.trans) (fun x hx y hy => by
    have mem : ∀ z, z ∈ a.row ++ b.row → OkT g z ∧ Grd z := fun z hz => by
      rcases List.mem_append.1 hz with hz | hz
      · rcases rowL_mem.1 hz with rfl | rfl
        · exact h _ (.inl rfl)
        · exact h _ (.inr (.inl rfl))
      · rcases rowL_mem.1 hz with rfl | rfl
        · exact h _ (.inr (.inr (.inl rfl)))
        · exact h _ (.inr (.inr (.inr rfl)))
    by_cases e : x = y
    · exact .inl e
    · exact .inr (gtK_total x.size x y (Nat.le_refl _) (mem x hx).1 (mem y hy).1 (mem x hx).2 (mem y hy).2 e))
  rcases this with h1 | h1 | h1
  · exact .inl h1
  · exact .inr (.inl h1)
  · exact .inr (.inr (sameL_iff.2 h1))
def Lt3.sub (f : Int → T) (a : Lt3) : Lt3 := ⟨a.neg, a.l.sub f, a.r.sub f⟩
theorem row_sub (f : Int → T) (a : Lt3) : (a.sub f).row = a.row.map (T.sub f) := by
  unfold Lt3.row Lt3.sub rowL
  cases a.neg <;> simp
/-- A greater literal stays greater when terms are put. -/
theorem GtLit.put {g : Sg} {f : Int → T} {a b : Lt3} (ha : ∀ t, t = a.l ∨ t = a.r → bad (T.subs 1 t) = false ∧ ∀ h ∈ t.hds, h < 0 → 1 ≤ wtT g (f (-1 - h))) (hb : ∀ t, t = b.l ∨ t = b.r → bad (T.subs 1 t) = false) (h : GtLit g a b) : GtLit g (a.sub f) (b.sub f) := by
  unfold GtLit at h ⊢
  rw [row_sub, row_sub]
  exact gtMs_map (T.sub f) (GtK.irrefl g) (fun _ _ _ => GtK.trans) (fun x hx y hy hr => gtK_sub x.size x y (Nat.le_refl _) (ha x (rowL_mem.1 hx)).2 (ha x (rowL_mem.1 hx)).1 (hb y (rowL_mem.1 hy)) hr) h

/-! ### Clauses -/
noncomputable def repC (c : List Lt3) : List Lt3 := c.map repL
def GtC (g : Sg) (c d : List Lt3) : Prop := gtMs (GtLit g) (repC c) (repC d)
theorem GtC.irrefl (g : Sg) (c : List Lt3) : ¬ GtC g c c := gtMs_irrefl _
theorem GtC.trans {g : Sg} {a b c : List Lt3} (h : GtC g a b) (k : GtC g b c) : GtC g a c := gtMs_trans (GtLit.irrefl g) (fun _ _ _ => GtLit.trans) h k
theorem gtMs_more {α : Type} [DecidableEq α] {R : α → α → Prop} (x : α) (a : List α) : gtMs R (x :: a) a := by
  constructor
  · exact ⟨x, by rw [List.count_cons_self]; omega⟩
  · intro y hy
    rw [List.count_cons] at hy; omega
theorem GtC.more (g : Sg) (l : Lt3) (c : List Lt3) : GtC g (c ++ [l]) c := by
  unfold GtC repC
  rw [List.map_append]
  refine (gtMs_congr (fun x => ?_) (fun x => rfl)).1 (gtMs_more (repL l) (c.map repL))
  rw [List.count_append, List.count_cons]
  simp only [List.map_cons, List.map_nil, List.count_cons, List.count_nil]
  omega
theorem GtC.total {g : Sg} {c d : List Lt3} (h : ∀ x ∈ c ++ d, ∀ t, (t = x.l ∨ t = x.r) → OkT g t ∧ Grd t) : GtC g c d ∨ GtC g d c ∨ ∀ x, (repC c).count x = (repC d).count x := by
  refine gtMs_total (GtLit.irrefl g) (fun _ _ _ => GtLit.trans) (fun x hx y hy => ?_)
  have mem : ∀ z, z ∈ repC c ++ repC d → ∃ z0 ∈ c ++ d, z = repL z0 := fun z hz => by
    rw [repC, repC, ← List.map_append] at hz
    obtain ⟨z0, h0, rfl⟩ := List.mem_map.1 hz
    exact ⟨z0, h0, rfl⟩
  obtain ⟨x0, hx0, rfl⟩ := mem x hx
  obtain ⟨y0, hy0, rfl⟩ := mem y hy
  rcases GtLit.total (g := g) (a := x0) (b := y0) (fun t ht => by
    rcases ht with rfl | rfl | rfl | rfl
    · exact h x0 hx0 _ (.inl rfl)
    · exact h x0 hx0 _ (.inr rfl)
    · exact h y0 hy0 _ (.inl rfl)
    · exact h y0 hy0 _ (.inr rfl)) with k | k | k
  · exact .inr (.inl (GtLit.rep.2 k))
  · exact .inr (.inr (GtLit.rep.2 k))
  · exact .inl (repL_eq.2 k)

end Go.Proofs.YtbdabdjpgmnejaaGreat

/- St0: split off Stv: what names neither Of nor the reference's Of. -/
/- What stays when terms are put for variables: variables of terms, in plain words. And the contract of the reference's In. -/
namespace Go.Proofs.YtbdabdjpgmnejaaGreat
set_option linter.unusedVariables false
set_option linter.unusedSimpArgs false
open Go.RowKit

theorem T.head_node (h : Int) (ts : List T) : (T.node h ts).head = h := rfl
/-- The heads of all parts of a term. -/
def T.heads (t : T) : List Int := (T.subs 1 t).map (fun x => x.2.head)
mutual
theorem heads_level (l l' : Nat) : (t : T) → (T.subs l t).map (fun x => x.2.head) = (T.subs l' t).map (fun x => x.2.head)
  | .node h ts => by simp only [T.subs, List.map_cons]; rw [headss_level (l + 1) (l' + 1) ts]
theorem headss_level (l l' : Nat) : (ts : List T) → (T.subss l ts).map (fun x => x.2.head) = (T.subss l' ts).map (fun x => x.2.head)
  | [] => rfl
  | t :: ts => by simp only [T.subss, List.map_append]; rw [heads_level l l' t, headss_level l l' ts]
end
theorem T.heads_eq (t : T) : t.heads = t.head :: (t.args.map T.heads).flatten := by
  unfold T.heads
  rw [T.subs_eq, List.map_cons]
  congr 1
  have : ∀ ts : List T, (T.subss 2 ts).map (fun x => x.2.head) = (ts.map (fun t => (T.subs 1 t).map (fun x => x.2.head))).flatten := by
    intro ts
    induction ts with
    | nil => rfl
    | cons t ts ih => simp only [T.subss, List.map_append, List.map_cons, List.flatten_cons]; rw [ih, heads_level 2 1 t]
  exact this t.args
theorem mem_varsOf (pre : List (Nat × T)) (v : Int) : v ∈ varsOf pre ↔ ∃ x ∈ pre, x.2.head < 0 ∧ v = -1 - x.2.head := by
  suffices h : ∀ (pre : List (Nat × T)) (acc : List Int), v ∈ pre.foldl varStep acc ↔ v ∈ acc ∨ ∃ x ∈ pre, x.2.head < 0 ∧ v = -1 - x.2.head by
    have := h pre []
    simpa [varsOf] using this
  intro pre
  induction pre with
  | nil => intro acc; simp
  | cons x pre ih =>
    intro acc
    rw [List.foldl_cons, ih]
    have : v ∈ varStep acc x ↔ v ∈ acc ∨ (x.2.head < 0 ∧ v = -1 - x.2.head) := by
      unfold varStep
      split
      · rename_i h0
        split
        · rename_i hc
          constructor
          · exact .inl
          · rintro (h | ⟨_, rfl⟩)
            · exact h
            · simpa using hc
        · simp [h0]
      · rename_i h0
        simp [h0]
    rw [this]
    simp only [List.mem_cons, exists_eq_or_imp]
    constructor
    · rintro ((h | h) | h)
      · exact .inl h
      · exact .inr (.inl h)
      · exact .inr (.inr h)
    · rintro (h | h | h)
      · exact .inl (.inl h)
      · exact .inl (.inr h)
      · exact .inr h
theorem mem_vars (t : T) (v : Int) : v ∈ varsOf (T.subs 1 t) ↔ ∃ h ∈ t.heads, h < 0 ∧ v = -1 - h := by
  rw [mem_varsOf]
  unfold T.heads
  simp only [List.mem_map]
  constructor
  · rintro ⟨x, hx, h1, h2⟩; exact ⟨_, ⟨x, hx, rfl⟩, h1, h2⟩
  · rintro ⟨_, ⟨x, hx, rfl⟩, h1, h2⟩; exact ⟨x, hx, h1, h2⟩

/-- In a good term variables stand without arguments. -/
theorem good_leaf {t : T} (h : bad (T.subs 1 t) = false) (hn : t.head < 0) : t.args = [] := by
  have := good_head h
  simp only [okB, if_pos hn, Bool.and_eq_true, decide_eq_true_iff] at this
  exact List.eq_nil_of_length_eq_zero this.1
theorem heads_sub (f : Int → T) : ∀ (N : Nat) (t : T), t.size ≤ N → bad (T.subs 1 t) = false → ∀ h, h < 0 → (h ∈ (t.sub f).heads ↔ ∃ g ∈ t.heads, g < 0 ∧ h ∈ (f (-1 - g)).heads) := by
  intro N
  induction N with
  | zero => intro t ht; have := T.size_pos t; omega
  | succ N ih =>
    intro t ht hg h hh
    by_cases q : t.head < 0
    · rw [T.sub_neg q]
      have ha := good_leaf hg q
      rw [T.heads_eq t, ha]
      simp [q]
    · rw [T.sub_pos q, T.heads_eq, T.heads_eq t]
      simp only [T.head_node, T.args_node, List.mem_cons, List.mem_flatten, List.mem_map, List.map_map]
      constructor
      · rintro (h1 | ⟨l, ⟨s, hs, rfl⟩, hl⟩)
        · have : h = t.head := h1
          omega
        · obtain ⟨i, hi⟩ := List.getElem?_of_mem hs
          obtain ⟨g, hg1, hg2, hg3⟩ := (ih s (by have := T.size_lt_of_mem hi; have := T.size_eq t; omega) (good_arg hg hi) h hh).1 hl
          exact ⟨g, .inr ⟨_, ⟨s, hs, rfl⟩, hg1⟩, hg2, hg3⟩
      · rintro ⟨g, h1 | ⟨l, ⟨s, hs, rfl⟩, hl⟩, hg2, hg3⟩
        · have : g = t.head := h1
          omega
        · obtain ⟨i, hi⟩ := List.getElem?_of_mem hs
          exact .inr ⟨_, ⟨s, hs, rfl⟩, (ih s (by have := T.size_lt_of_mem hi; have := T.size_eq t; omega) (good_arg hg hi) h hh).2 ⟨g, hl, hg2, hg3⟩⟩
theorem sub_self (f : Int → T) : ∀ (N : Nat) (t : T), t.size ≤ N → bad (T.subs 1 t) = false → (∀ g ∈ t.heads, g < 0 → f (-1 - g) = vt (-1 - g)) → t.sub f = t := by
  intro N
  induction N with
  | zero => intro t ht; have := T.size_pos t; omega
  | succ N ih =>
    intro t ht hg hf
    by_cases q : t.head < 0
    · rw [T.sub_neg q, hf t.head (by rw [T.heads_eq]; simp) q]
      have ha := good_leaf hg q
      conv => rhs; rw [← T.eta t, ha]
      simp only [vt]
      congr 1
      omega
    · rw [T.sub_pos q]
      conv => rhs; rw [← T.eta t]
      congr 1
      conv => rhs; rw [← List.map_id t.args]
      apply List.map_congr_left
      intro s hs
      obtain ⟨i, hi⟩ := List.getElem?_of_mem hs
      exact ih s (by have := T.size_lt_of_mem hi; have := T.size_eq t; omega) (good_arg hg hi) (fun g hg1 hg2 => hf g (by rw [T.heads_eq]; exact List.mem_cons_of_mem _ (List.mem_flatten.2 ⟨_, List.mem_map.2 ⟨s, hs, rfl⟩, hg1⟩)) hg2)
theorem sub_vt {t : T} (hg : bad (T.subs 1 t) = false) : t.sub (ofS []) = t := sub_self _ t.size t (Nat.le_refl _) hg (fun g _ _ => rfl)


end Go.Proofs.YtbdabdjpgmnejaaGreat

/- Plain facts for the laws of layer 8. -/
namespace Go.Proofs.YtbdabdjpgmnejaaGreat
set_option linter.unusedVariables false
set_option linter.unusedSimpArgs false
open Go.RowKit

theorem stand_swap (g : Sg) (a b : T) : stand g b a = if stand g a b = 2 then 2 else -stand g a b := by
  rcases stand_cases g a b with ⟨h, e⟩ | ⟨h, e⟩ | ⟨h, e⟩ | ⟨h, e1, e2, e3⟩
  · rw [h, stand_zero.2 e.symm]; rfl
  · rw [h, stand_less.2 e]; rfl
  · rw [h, stand_more.2 e]; rfl
  · rw [h]
    rcases stand_cases g b a with ⟨h', e'⟩ | ⟨h', e'⟩ | ⟨h', e'⟩ | ⟨h', _⟩
    · exact absurd e'.symm e1
    · rw [e3] at e'; cases e'
    · rw [e2] at e'; cases e'
    · rw [h']; rfl
def cmR (g : Sg) (a b : T) : Int := if errF g [a, b] = 0 then stand g a b else 0
theorem cmpV_eq (g : Sg) (a b : T) : cmpV g a b = .tuple #[.int .i64 (cmR g a b), .int .i64 (errF g [a, b])] := by
  unfold cmpV cmR
  by_cases h : errF g [a, b] = 0
  · rw [if_pos h, if_pos h, h]
  · rw [if_neg h, if_neg h]
def muR (g : Sg) (a b : List T) : Int := if errF g a = 0 then (if errF g b = 0 then rowsT g a b else 0) else 0
def muE (g : Sg) (a b : List T) : Int := if errF g a = 0 then errF g b else errF g a
theorem mulV_eq (g : Sg) (a b : List T) : mulV g a b = .tuple #[.int .i64 (muR g a b), .int .i64 (muE g a b)] := by
  unfold mulV muR muE
  by_cases h : errF g a = 0
  · rw [if_pos h, if_pos h, if_pos h]
    by_cases h' : errF g b = 0
    · rw [if_pos h', if_pos h', h']
    · rw [if_neg h', if_neg h']
  · rw [if_neg h, if_neg h, if_neg h]
theorem cm_ok {g : Sg} {a b : T} (h : errF g [a, b] = 0) : cmR g a b = stand g a b := by unfold cmR; rw [if_pos h]
theorem errT_right {g : Sg} {t : T} (h : errT g t = 0) : rightG g = true := (errT_ok h).1
theorem errT_bad {g : Sg} {t : T} (h : errT g t = 0) : bad (T.subs 1 t) = false := (check_ok (errT_ok h).2.1).2.2
theorem errT_okT {g : Sg} {t : T} (h : errT g t = 0) : OkT g t := (okT_iff (errT_right h)).1 h
theorem heads_hds (t : T) : t.heads = t.hds := by
  refine hds_unique (F := T.heads) (fun t => ?_) t.size t (Nat.le_refl _)
  rw [T.heads_eq]
theorem isVars_vars (t : T) : IsVars (varsOf (T.subs 1 t)) t := fun v => by rw [mem_vars, heads_hds]
theorem vars_grd {t : T} (h : (varsOf (T.subs 1 t)).length = 0) : Grd t := (grd_vars (isVars_vars t)).1 (List.eq_nil_of_length_eq_zero h)
theorem stand_grd {g : Sg} {a b : T} (ha : errT g a = 0) (hb : errT g b = 0) (ga : Grd a) (gb : Grd b) : stand g a b ≠ 2 := fun h => by
  rcases stand_cases g a b with ⟨h', _⟩ | ⟨h', _⟩ | ⟨h', _⟩ | ⟨_, e1, e2, e3⟩
  · rw [h'] at h; cases h
  · rw [h'] at h; cases h
  · rw [h'] at h; cases h
  · rcases gtK_total (g := g) a.size a b (Nat.le_refl _) (errT_okT ha) (errT_okT hb) ga gb e1 with e | e
    · rw [e2] at e; cases e
    · rw [e3] at e; cases e
theorem stand_trans {g : Sg} {a b c : T} (h1 : stand g a b = 1) (h2 : stand g b c = 1) : stand g a c = 1 :=
  stand_more.2 (gtK_trans a.size a b c (Nat.le_refl _) (stand_more.1 h1) (stand_more.1 h2))
theorem stand_sub {g : Sg} {f : Int → T} {a b : T} (ha : ∀ h ∈ a.hds, h < 0 → 1 ≤ wtT g (f (-1 - h))) (hb : ∀ h ∈ b.hds, h < 0 → 1 ≤ wtT g (f (-1 - h))) (ba : bad (T.subs 1 a) = false) (bb : bad (T.subs 1 b) = false) (h : stand g a b ≠ 2) : stand g (a.sub f) (b.sub f) = stand g a b := by
  rcases stand_cases g a b with ⟨h', e⟩ | ⟨h', e⟩ | ⟨h', e⟩ | ⟨h', _⟩
  · rw [h']; exact stand_zero.2 (by rw [e])
  · rw [h']; exact stand_more.2 (gtK_sub a.size a b (Nat.le_refl _) ha ba bb e)
  · rw [h']; exact stand_less.2 (gtK_sub b.size b a (Nat.le_refl _) hb bb ba e)
  · exact absurd h' h
theorem errF_cons (g : Sg) (t : T) (ts : List T) : errF g (t :: ts) = if errT g t ≠ 0 then errT g t else errF g ts := rfl
theorem errF_one {g : Sg} {t : T} : errF g [t] = errT g t := by
  rw [errF_cons]
  by_cases h : errT g t = 0
  · rw [if_neg (fun e => e h), h]; rfl
  · rw [if_pos h]
theorem errF_app (g : Sg) : ∀ (a b : List T), errF g (a ++ b) = if errF g a = 0 then errF g b else errF g a
  | [], b => rfl
  | t :: a, b => by
    rw [List.cons_append, errF_cons, errF_cons]
    by_cases h : errT g t = 0
    · have h' : ¬ errT g t ≠ 0 := fun e => e h
      simp only [if_neg h', errF_app g a b]
    · simp only [if_pos h, if_neg h]
theorem errF_pair {g : Sg} {a b : T} (ha : errT g a = 0) (hb : errT g b = 0) : errF g [a, b] = 0 := by
  have : errF g ([a] ++ [b]) = 0 := by rw [errF_app, errF_one, errF_one, if_pos ha, hb]
  exact this

end Go.Proofs.YtbdabdjpgmnejaaGreat

/- Contracts of the reference's Depth, good, Check and Right. -/
namespace Go.Proofs.YtbdabdjpgmnejaaGreat
set_option linter.unusedVariables false
set_option linter.unusedSimpArgs false
open Go.RowKit



theorem refDepth_any : ∀ (N : Nat) (t : T), t.size ≤ N → t.size ≤ 1000000000000 → ∀ (n₀ : Nat) (a : Option Addr) (c : Nat) (w : World), n₀ ≤ w.heap.size → IsArgs n₀ w t.args a c →
    Calls Tryz.prog 136 #[tm t.head a t.args.length c] w fun e w' => e = .returned (.int .i64 (t.depth : Nat)) ∧ Below w.heap.size w w' := by
  intro N
  induction N with
  | zero => intro t ht; have := T.size_pos t; omega
  | succ N ih =>
    intro t ht hbig n₀ a c w hn hA
    have IH := Lib.hid ih
    clear ih
    have hsz := T.size_eq t
    have HS := Lib.hid hsz
    have HD := Lib.hid (T.depth_eq t)
    have hdl : T.depths t.args ≤ 1000000000000 := by have := T.depths_le_sizes t.args; omega
    have HDL := Lib.hid hdl
    clear hsz hdl
    have hlc : t.args.length ≤ c ∧ c ≤ maxLen := ⟨hA.1, hA.2.1⟩
    unfold maxLen at hlc
    obtain ⟨hl1, hl2⟩ := hlc
    generalize hL : t.args.length = len at *
    have HL := Lib.hid hL
    clear hL
    have HA := Lib.hid hA
    clear hA
    go_enter Tryz.func136, Tryz.ntmps136
    go_wp2
    go_loopw [3, 4] (fun n i wr => ∃ k : Nat, k ≤ len ∧ i = .int .i64 k ∧ n = .int .i64 (T.depths (t.args.take k) : Nat) ∧ Below (w.heap.size + 1) (w.alloc (tmCells t.head a len c)) wr)
      (fun _ i _ => len - (intOf i).toNat)
    case atStart => exact ⟨0, Nat.zero_le _, rfl, by simp [T.depths], Below.refl _ _⟩
    case round =>
      obtain ⟨k, hk, rfl, rfl, hB⟩ := hrel
      generalize hm' : T.depths (t.args.take k) = m at *
      have hmb : m ≤ 1000000000000 := by
        have h3 := T.depths_append (t.args.take k) (t.args.drop k)
        rw [List.take_append_drop] at h3
        have := HDL.out
        omega
      have HM := Lib.hid hm'
      clear hm'
      have hbox : wr.cell? ⟨w.heap.size, 1, none⟩ = some (.slice a len c) := (hB.cell (p := ⟨w.heap.size, 1, none⟩) (by simp)).trans (by simp [go_sem])
      have HB := Lib.hid hB
      clear hB
      by_cases hlt : k < len
      · have hw : Below n₀ w wr := ((Below.refl n₀ w).alloc hn _).trans (HB.out.mono (by omega))
        obtain ⟨b, o, s, a', c', rfl, hbn, hs, hwf, hc1, hc2, hA'⟩ := (HA.out.below hw).elem (i := k) (by rw [HL.out]; exact hlt)
        have hs1 : wr.heap.size ≥ w.heap.size + 1 := by have := HB.out.size; simpa using this
        have hsN : s.size ≤ N := by have := T.size_lt_of_mem hs; have := HS.out; omega
        have hsb : s.size ≤ 1000000000000 := by have := T.size_lt_of_mem hs; have := HS.out; omega
        have HSS := Lib.hid hs
        have HA' := Lib.hid hA'
        clear hs hA' hw hwf
        go_wp2_with fail
        refine (IH.out s hsN hsb n₀ a' c' wr (by omega) HA'.out).mono ?_
        rintro e w2 ⟨rfl, hB2⟩
        generalize hr : s.depth = r at *
        have HR := Lib.hid hr
        have HB2 := Lib.hid hB2
        clear hr hB2
        go_wp2
        go_roundw
        case rel =>
          refine ⟨k + 1, by omega, by go_num, ?_, HB.out.trans (HB2.out.mono (by omega))⟩
          have h1 := HM.out
          have h2 := HR.out
          have h3 := T.depths_take HSS.out
          rw [h1, h2] at h3
          rw [h3]
          congr 1
          omega
        case measure => simp [intOf]; omega
      · go_wp2
        go_ret
        refine ⟨?_, (((Below.refl w.heap.size w).alloc (Nat.le_refl _) _).trans (HB.out.mono (by omega)))⟩
        have h1 := HM.out
        have h2 := HD.out
        rw [List.take_of_length_le (by have := HL.out; omega)] at h1
        rw [h2, h1]
        show Ending.returned (Value.int .i64 ((m : Int) + 1)) = _
        congr 2
        omega



set_option maxRecDepth 100000 in
set_option maxHeartbeats 1000000 in
theorem refGood_any : ∀ (N : Nat) (t : T), t.size ≤ N → t.size ≤ 1000000000000 → ∀ (n₀ : Nat) (a : Option Addr) (c : Nat) (w : World), n₀ ≤ w.heap.size → IsArgs n₀ w t.args a c →
    Calls Tryz.prog 137 #[tm t.head a t.args.length c] w fun e w' => e = .returned (.bool (!bad (T.subs 1 t))) ∧ Below w.heap.size w w' := by
  intro N
  induction N with
  | zero => intro t ht; have := T.size_pos t; omega
  | succ N ih =>
    intro t ht hbig n₀ a c w hn hA
    have IH := Lib.hid ih
    clear ih
    have HS := Lib.hid (T.size_eq t)
    have HE := Lib.hid (bad_eq t)
    have hlc : t.args.length ≤ c ∧ c ≤ maxLen := ⟨hA.1, hA.2.1⟩
    unfold maxLen at hlc
    obtain ⟨hl1, hl2⟩ := hlc
    generalize hL : t.args.length = len at *
    have HL := Lib.hid hL
    clear hL
    have HA := Lib.hid hA
    have HF := Lib.hid (show Below w.heap.size w (w.alloc (tmCells t.head a len c)) from (Below.refl _ _).alloc (Nat.le_refl _) _)
    clear hA
    have hokN : ∀ (P : Prop), P → (okB t.head len = false) → True := fun _ _ _ => trivial
    clear hokN
    by_cases q1 : t.head < 0
    · by_cases q2 : 0 < len
      · have hd : bad (T.subs 1 t) = true := by rw [HE.out]; simp [okB, q1, show ¬ len = 0 from by omega]
        rw [hd]
        go_enter Tryz.func137, Tryz.ntmps137
        go_wp2
        go_ret
        exact ⟨by first | (rw [hd]; rfl) | rfl, HF.out⟩
      · obtain rfl : len = 0 := by omega
        by_cases q3 : t.head < -256
        · have hd : bad (T.subs 1 t) = true := by rw [HE.out]; simp [okB, q1, show ¬ -1 - t.head ≤ 255 from by omega]
          rw [hd]
          go_enter Tryz.func137, Tryz.ntmps137
          go_wp2
          go_ret
          exact ⟨by first | (rw [hd]; rfl) | rfl, HF.out⟩
        · have hd : bad (T.subs 1 t) = false := by
            rw [HE.out, List.eq_nil_of_length_eq_zero HL.out]
            simp [okB, q1, show -1 - t.head ≤ 255 from by omega, T.subss, bad]
          rw [hd]
          have q4 : ¬ 1023 < t.head := by omega
          have q5 : ¬ (8 : Int) < 0 := by omega
          go_enter Tryz.func137, Tryz.ntmps137
          go_wp2
          go_loopw [3] (fun i wr => i = .int .i64 0 ∧ wr = w.alloc (tmCells t.head a 0 c)) (fun _ _ => 0)
          case atStart => exact ⟨by first | (rw [hd]; rfl) | rfl, rfl⟩
          case round =>
            obtain ⟨rfl, rfl⟩ := hrel
            go_wp2
            go_ret
            exact ⟨by first | (rw [hd]; rfl) | rfl, HF.out⟩
    · have q3 : ¬ t.head < -256 := by omega
      by_cases q4 : 1023 < t.head
      · have hd : bad (T.subs 1 t) = true := by rw [HE.out]; simp [okB, q1, show ¬ t.head ≤ 1023 from by omega]
        rw [hd]
        go_enter Tryz.func137, Tryz.ntmps137
        go_wp2
        go_ret
        exact ⟨by first | (rw [hd]; rfl) | rfl, HF.out⟩
      · by_cases q5 : 8 < len
        · have hd : bad (T.subs 1 t) = true := by rw [HE.out]; simp [okB, q1, show ¬ len ≤ 8 from by omega]
          have q5' : (8 : Int) < (len : Int) := by omega
          rw [hd]
          go_enter Tryz.func137, Tryz.ntmps137
          go_wp2
          go_ret
          exact ⟨by first | (rw [hd]; rfl) | rfl, HF.out⟩
        · have hd : bad (T.subs 1 t) = bad (T.subss 2 t.args) := by rw [HE.out]; simp [okB, q1, show t.head ≤ 1023 from by omega, show len ≤ 8 from by omega]
          have q5' : ¬ (8 : Int) < (len : Int) := by omega
          rw [hd]
          clear hd
          go_enter Tryz.func137, Tryz.ntmps137
          go_wp2
          go_loopw [3] (fun i wr => ∃ k : Nat, k ≤ len ∧ i = .int .i64 k ∧ bad (T.subss 2 (t.args.take k)) = false ∧ Below (w.heap.size + 1) (w.alloc (tmCells t.head a len c)) wr)
            (fun i _ => len - (intOf i).toNat)
          case atStart => exact ⟨0, Nat.zero_le _, rfl, by simp [T.subss, bad], Below.refl _ _⟩
          case round =>
            obtain ⟨k, hk, rfl, hbd, hB⟩ := hrel
            have HBD := Lib.hid hbd
            have hbox : wr.cell? ⟨w.heap.size, 1, none⟩ = some (.slice a len c) := (hB.cell (p := ⟨w.heap.size, 1, none⟩) (by simp)).trans (by simp [go_sem])
            have HB := Lib.hid hB
            clear hB hbd
            by_cases hlt : k < len
            · have hw : Below n₀ w wr := ((Below.refl n₀ w).alloc hn _).trans (HB.out.mono (by omega))
              obtain ⟨b, o, s, a', c', rfl, hbn, hs, hwf, hc1, hc2, hA'⟩ := (HA.out.below hw).elem (i := k) (by rw [HL.out]; exact hlt)
              have hs1 : wr.heap.size ≥ w.heap.size + 1 := by have := HB.out.size; simpa using this
              have hsN : s.size ≤ N := by have := T.size_lt_of_mem hs; have := HS.out; omega
              have hsb : s.size ≤ 1000000000000 := by have := T.size_lt_of_mem hs; have := HS.out; omega
              have HSS := Lib.hid hs
              have HA' := Lib.hid hA'
              clear hs hA' hw hwf
              go_wp2_with fail
              refine (IH.out s hsN hsb n₀ a' c' wr (by omega) HA'.out).mono ?_
              rintro e w2 ⟨rfl, hB2⟩
              have HB2 := Lib.hid (HB.out.trans (hB2.mono (by omega)))
              clear hB2
              cases hb : bad (T.subs 1 s)
              · have HBS := Lib.hid hb
                clear hb
                go_wp2
                go_roundw
                case rel => exact ⟨k + 1, by omega, by go_num, by rw [bads_take HSS.out, HBD.out, HBS.out]; rfl, HB2.out⟩
                case measure => simp [intOf]; omega
              · have hd := bads_mem HSS.out hb
                clear hb
                go_wp2
                go_ret
                exact ⟨by first | (rw [hd]; rfl) | rfl, ((Below.refl w.heap.size w).alloc (Nat.le_refl _) _).trans (HB2.out.mono (by omega))⟩
            · have hd := HBD.out
              rw [List.take_of_length_le (by have := HL.out; omega)] at hd
              go_wp2
              go_ret
              exact ⟨by first | (rw [hd]; rfl) | rfl, ((Below.refl w.heap.size w).alloc (Nat.le_refl _) _).trans (HB.out.mono (by omega))⟩

set_option maxRecDepth 100000 in
set_option maxHeartbeats 1000000 in
theorem refCheck_any (t : T) (ht : t.size ≤ 1000000000000) (n₀ : Nat) (a : Option Addr) (c : Nat) (w : World) (hn : n₀ ≤ w.heap.size) (hA : IsArgs n₀ w t.args a c) :
    Calls Tryz.prog 110 #[tm t.head a t.args.length c] w fun e w' => e = .returned (.int .i64 t.check) ∧ Below w.heap.size w w' := by
  have hdl := T.depth_le_size t
  obtain ⟨w1, hw1⟩ : ∃ w1, w.alloc (tmCells t.head a t.args.length c) = w1 := ⟨_, rfl⟩
  have hb1 : Below w.heap.size w w1 := by rw [← hw1]; exact (Below.refl _ w).alloc (Nat.le_refl _) _
  have L1 := Lib.hid (show ∀ W, Below w1.heap.size w1 W → W.cell? ⟨w.heap.size, 0, none⟩ = some (.int .i64 t.head) ∧ W.cell? ⟨w.heap.size, 1, none⟩ = some (.slice a t.args.length c) ∧ IsArgs n₀ W t.args a c ∧ Below w.heap.size w W ∧ n₀ ≤ W.heap.size from fun W hW => by
    have h := hb1.trans (hW.mono hb1.size)
    exact ⟨(hW.cell (p := ⟨w.heap.size, 0, none⟩) (by rw [← hw1]; simp)).trans (by rw [← hw1]; simp [go_sem]), (hW.cell (p := ⟨w.heap.size, 1, none⟩) (by rw [← hw1]; simp)).trans (by rw [← hw1]; simp [go_sem]), hA.below (h.mono hn), h, Nat.le_trans hn h.size⟩)
  clear hA hb1
  obtain ⟨c0, c1, _, _, _⟩ := L1.out w1 (Below.refl _ _)
  go_enter Tryz.func110, Tryz.ntmps110
  go_wp2_with fail
  obtain ⟨_, _, hA, hb, hz⟩ := L1.out w1 (Below.refl _ _)
  clear hw1 c0 c1
  refine (refSize_any t.size t (Nat.le_refl _) ht n₀ a c w1 hz hA).mono ?_
  rintro e w2 ⟨rfl, hb2⟩
  clear hA hb hz
  obtain ⟨c0, c1, hA, hb, hz⟩ := L1.out w2 hb2
  by_cases q1 : 400 < t.size
  · have hd : t.check = 2 := by unfold T.check; rw [if_pos q1]
    have q1' : (400 : Int) < (t.size : Int) := by omega
    have HB := Lib.hid hb
    clear hb2 hA hb
    go_wp2
    go_ret
    exact ⟨by first | (rw [hd]; rfl) | rfl, HB.out⟩
  · have q1' : ¬ (400 : Int) < (t.size : Int) := by omega
    have HA := Lib.hid hA
    have HB2 := Lib.hid hb2
    clear hA hb hb2
    go_wp2_with fail
    refine (refDepth_any t.size t (Nat.le_refl _) ht n₀ a c w2 hz HA.out).mono ?_
    rintro e w3 ⟨rfl, hb3⟩
    have hb3' := HB2.out.trans (hb3.mono HB2.out.size)
    clear c0 c1 HA hz hb3
    obtain ⟨c0, c1, hA, hb, hz⟩ := L1.out w3 hb3'
    by_cases q2 : 40 < t.depth
    · have hd : t.check = 7 := by unfold T.check; rw [if_neg q1, if_pos q2]
      have q2' : (40 : Int) < (t.depth : Int) := by omega
      have HB := Lib.hid hb
      clear hb3' hA hb
      go_wp2
      go_ret
      exact ⟨by first | (rw [hd]; rfl) | rfl, HB.out⟩
    · have q2' : ¬ (40 : Int) < (t.depth : Int) := by omega
      have HA := Lib.hid hA
      have HB3 := Lib.hid hb3'
      clear hA hb hb3'
      go_wp2_with fail
      refine (refGood_any t.size t (Nat.le_refl _) ht n₀ a c w3 hz HA.out).mono ?_
      rintro e w4 ⟨rfl, hb4⟩
      have hb4' := HB3.out.trans (hb4.mono HB3.out.size)
      clear c0 c1 HA hz hb4
      obtain ⟨_, _, hA, hb, hz⟩ := L1.out w4 hb4'
      have HB := Lib.hid hb
      clear hb4' hA hb
      cases hbd : bad (T.subs 1 t)
      · have hd : t.check = 0 := by unfold T.check; rw [if_neg q1, if_neg q2, hbd]; rfl
        go_wp2
        go_ret
        exact ⟨by first | (rw [hd]; rfl) | rfl, HB.out⟩
      · have hd : t.check = 1 := by unfold T.check; rw [if_neg q1, if_neg q2, hbd]; rfl
        go_wp2
        go_ret
        exact ⟨by first | (rw [hd]; rfl) | rfl, HB.out⟩

end Go.Proofs.YtbdabdjpgmnejaaGreat
