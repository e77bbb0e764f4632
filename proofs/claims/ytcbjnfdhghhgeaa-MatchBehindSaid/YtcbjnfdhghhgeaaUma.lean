/- Uma: joined of Uma, Umb, Umc, Umd. -/
import Derived.Test.YtcbjnfdhghhgeaaUst
import Derived.Test.YtcbjnfdhghhgeaaStv
import Derived.Test.YtcbjnfdhghhgeaaAlU
/- Unification by links: what holds of the states, and that each step keeps it. Plain words. -/
namespace Go.Proofs.Ytcbjnfdhghhgeaa
set_option linter.unusedVariables false
set_option linter.unusedSimpArgs false
open Go.RowKit

/-- The term of a node. -/
def ownU (S : List Sy) (v : Int) : T := if v < 256 then vt v else symT S v
def nodesOf (S : List Sy) (v : Int) : List Int := ((S[(v - 256).toNat]?).map Prod.snd).getD []
/-- θ makes each node what its root is. -/
def LinkEq (S : List Sy) (R : Int → Int) (θ : Int → T) : Prop := ∀ v, R v ≠ v → (ownU S v).sub θ = (ownU S (R v)).sub θ
def PairEq (S : List Sy) (θ : Int → T) (p : Int × Int) : Prop := (ownU S p.1).sub θ = (ownU S p.2).sub θ
/-- The same root, or a pair that waits; closed. -/
inductive Eqv (R : Int → Int) (stk : List (Int × Int)) : Int → Int → Prop
  | root {x y : Int} : R x = R y → Eqv R stk x y
  | pair {x y : Int} : (x, y) ∈ stk → Eqv R stk x y
  | symm {x y : Int} : Eqv R stk x y → Eqv R stk y x
  | trans {x y z : Int} : Eqv R stk x y → Eqv R stk y z → Eqv R stk x z
theorem Eqv.mono {R R' : Int → Int} {stk stk' : List (Int × Int)} (h1 : ∀ x y, R x = R y → R' x = R' y) (h2 : ∀ p ∈ stk, Eqv R' stk' p.1 p.2) {x y : Int} (h : Eqv R stk x y) : Eqv R' stk' x y := by
  induction h with
  | root h => exact .root (h1 _ _ h)
  | pair h => exact h2 _ h
  | symm _ ih => exact ih.symm
  | trans _ _ ih1 ih2 => exact ih1.trans ih2
theorem Eqv.done {R : Int → Int} {x y : Int} (h : Eqv R [] x y) : R x = R y := by
  induction h with
  | root h => exact h
  | pair h => simp at h
  | symm _ ih => exact ih.symm
  | trans _ _ ih1 ih2 => exact ih1.trans ih2

theorem own_args {S : List Sy} (u : Int) {v : Int} (hv : v < 256 + S.length) : ownU (argsOf S u).1 v = ownU S v := by
  unfold ownU
  split
  · rfl
  · exact argsOf_symT u (by omega)
theorem own_sym {S : List Sy} {v : Int} (h : 256 ≤ v) : ownU S v = symT S v := by unfold ownU; rw [if_neg (by omega)]
theorem sym_get {S : List Sy} {v : Int} (h : 256 ≤ v) (hv : v < 256 + S.length) : ∃ x, S[(v - 256).toNat]? = some x ∧ symT S v = x.1 ∧ nodesOf S v = x.2 := by
  have hl : (v - 256).toNat < S.length := by omega
  refine ⟨S[(v - 256).toNat], List.getElem?_eq_getElem hl, ?_, ?_⟩
  · unfold symT; rw [List.getElem?_eq_getElem hl]; rfl
  · unfold nodesOf; rw [List.getElem?_eq_getElem hl]; rfl
/-- Nodes that are made stay. -/
theorem nodes_args {S : List Sy} (u : Int) {v : Int} (h : 256 ≤ v) (hv : v < 256 + S.length) (hm : (nodesOf S v).length = (symT S v).args.length) : nodesOf (argsOf S u).1 v = nodesOf S v := by
  obtain ⟨x, hx, h1, h2⟩ := sym_get h hv
  rw [h1, h2] at hm
  unfold argsOf
  split
  · rfl
  · split
    · rfl
    · rename_i t as_ hs
      split
      · rename_i hlt
        obtain ⟨l, hl, _⟩ := addAll_old t.args S
        have hvl : (v - 256).toNat < S.length := by omega
        unfold nodesOf
        rw [hl]
        by_cases e : (u - 256).toNat = (v - 256).toNat
        · rw [e, hx] at hs
          cases hs
          simp only at hm hlt
          omega
        · rw [List.getElem?_set_ne e, List.getElem?_append_left hvl]
      · rfl
/-- The nodes that args answers are those that it made. -/
theorem nodes_self {S : List Sy} {v : Int} (h : 256 ≤ v) (hv : v < 256 + S.length) : nodesOf (argsOf S v).1 v = (argsOf S v).2 := by
  have hvl : (v - 256).toNat < S.length := by omega
  have hx := List.getElem?_eq_getElem hvl
  unfold argsOf
  rw [if_neg (by omega), hx]
  simp only
  split
  · obtain ⟨l, hl, _⟩ := addAll_old S[(v - 256).toNat].1.args S
    unfold nodesOf
    rw [List.getElem?_set_self (by rw [hl, List.length_append]; omega)]
    rfl
  · unfold nodesOf
    rw [hx]
    rfl

/-- The terms of nodes of Args are the Args. -/
def ArgO (S : List Sy) : Prop := ∀ (v z : Int) (t : T), 256 ≤ v → v < 256 + S.length → ∀ k : Nat, (nodesOf S v)[k]? = some z → (symT S v).args[k]? = some t → ownU S z = t
theorem own_add {S : List Sy} {t : T} (hg : bad (T.subs 1 t) = false) : ownU (addN S t) (addI S t) = t := by
  unfold ownU addI addN
  by_cases h : t.head < 0
  · rw [if_pos h, if_pos h]
    have h1 := good_head hg
    simp only [okB, if_pos h, Bool.and_eq_true, decide_eq_true_iff] at h1
    rw [if_pos (by omega)]
    have h2 := good_leaf hg h
    rw [← T.eta t, h2]
    unfold vt
    rw [T.head_node]
    congr 1
    omega
  · rw [if_neg h, if_neg h, if_neg (by omega)]
    unfold symT
    rw [show (256 + (S.length : Int) - 256).toNat = S.length from by omega, List.getElem?_append_right (Nat.le_refl _)]
    simp
theorem own_old {S l : List Sy} {v : Int} (hv : v < 256 + S.length) : ownU (S ++ l) v = ownU S v := by
  unfold ownU
  split
  · rfl
  · unfold symT
    rw [List.getElem?_append_left (by omega)]
theorem addN_old (S : List Sy) (t : T) : ∃ l, addN S t = S ++ l := by
  unfold addN
  split
  · exact ⟨[], by simp⟩
  · exact ⟨_, rfl⟩
theorem own_addAll : ∀ (ts : List T) (S : List Sy), (∀ t ∈ ts, bad (T.subs 1 t) = false) → ∀ (k : Nat) (z : Int) (t : T), (addAll S ts).2[k]? = some z → ts[k]? = some t → ownU (addAll S ts).1 z = t
  | [], S, _, k, z, t, hz, ht => by simp at ht
  | s :: ts, S, hg, 0, z, t, hz, ht => by
    simp [addAll] at hz ht
    subst hz ht
    obtain ⟨l, hl, _⟩ := addAll_old ts (addN S s)
    simp only [addAll]
    rw [hl, own_old (addI_valid (hg s (by simp))).2.1]
    exact own_add (hg s (by simp))
  | s :: ts, S, hg, k + 1, z, t, hz, ht => by
    simp only [addAll] at hz ⊢
    exact own_addAll ts (addN S s) (fun t ht => hg t (by simp [ht])) k z t (by simpa using hz) (by simpa using ht)

end Go.Proofs.Ytcbjnfdhghhgeaa

/- Unification by links: each step keeps what holds. Plain words. -/
namespace Go.Proofs.Ytcbjnfdhghhgeaa
set_option linter.unusedVariables false
set_option linter.unusedSimpArgs false
open Go.RowKit

theorem own_set {S : List Sy} {i : Nat} {t : T} {as_ is_ : List Int} (h : S[i]? = some (t, as_)) (z : Int) : ownU (S.set i (t, is_)) z = ownU S z := by
  unfold ownU
  split
  · rfl
  · unfold symT
    by_cases e : i = (z - 256).toNat
    · subst e
      rw [List.getElem?_set_self (List.getElem?_eq_some_iff.1 h).1, h]
      rfl
    · rw [List.getElem?_set_ne e]
theorem addAll_new : ∀ (ts : List T) (S : List Sy), ∃ l, (addAll S ts).1 = S ++ l ∧ ∀ x ∈ l, x.2 = []
  | [], S => ⟨[], by simp [addAll], by simp⟩
  | t :: ts, S => by
    obtain ⟨l, h, hl⟩ := addAll_new ts (addN S t)
    simp only [addAll, h]
    unfold addN
    split
    · exact ⟨l, rfl, hl⟩
    · refine ⟨(t, []) :: l, by simp, fun x hx => ?_⟩
      rcases List.mem_cons.1 hx with rfl | hx
      · rfl
      · exact hl x hx
theorem ArgO.args {S : List Sy} {R : Int → Int} (hok : GOk S R) (h : ArgO S) (u : Int) : ArgO (argsOf S u).1 := by
  unfold argsOf
  split
  · exact h
  · split
    · exact h
    · rename_i t as_ hs
      have hm := List.mem_of_getElem? hs
      split
      · intro v z x hv0 hv1 k hz hx
        obtain ⟨l, hl, _⟩ := addAll_old t.args S
        have hil := (List.getElem?_eq_some_iff.1 hs).1
        have hs1 : (addAll S t.args).1[(u - 256).toNat]? = some (t, as_) := by rw [hl, List.getElem?_append_left hil]; exact hs
        rw [own_set hs1]
        rw [List.length_set] at hv1
        by_cases e : (u - 256).toNat = (v - 256).toNat
        · have e1 : nodesOf ((addAll S t.args).1.set (u - 256).toNat (t, (addAll S t.args).2)) v = (addAll S t.args).2 := by
            unfold nodesOf
            rw [← e, List.getElem?_set_self (by rw [hl, List.length_append]; omega)]
            rfl
          have e2 : symT ((addAll S t.args).1.set (u - 256).toNat (t, (addAll S t.args).2)) v = t := by
            unfold symT
            rw [← e, List.getElem?_set_self (by rw [hl, List.length_append]; omega)]
            rfl
          rw [e1] at hz
          rw [e2] at hx
          exact own_addAll t.args S (fun s hs' => good_mem (hok.good _ hm) hs') k z x hz hx
        · have e1 : nodesOf ((addAll S t.args).1.set (u - 256).toNat (t, (addAll S t.args).2)) v = nodesOf (addAll S t.args).1 v := by
            unfold nodesOf; rw [List.getElem?_set_ne e]
          have e2 : symT ((addAll S t.args).1.set (u - 256).toNat (t, (addAll S t.args).2)) v = symT (addAll S t.args).1 v := by
            unfold symT; rw [List.getElem?_set_ne e]
          rw [e1] at hz
          rw [e2] at hx
          by_cases hvS : v < 256 + S.length
          · have e3 : nodesOf (addAll S t.args).1 v = nodesOf S v := by unfold nodesOf; rw [hl, List.getElem?_append_left (by omega)]
            have e4 : symT (addAll S t.args).1 v = symT S v := by unfold symT; rw [hl, List.getElem?_append_left (by omega)]
            rw [e3] at hz
            rw [e4] at hx
            obtain ⟨y, hy, h1, h2⟩ := sym_get hv0 hvS
            have hzv := hok.argv y (List.mem_of_getElem? hy) z (by rw [← h2]; exact List.mem_of_getElem? hz)
            rw [hl, own_old hzv.2]
            exact h v z x hv0 hvS k hz hx
          · obtain ⟨y, hy, h1, h2⟩ := sym_get hv0 hv1
            obtain ⟨l', hl', hnil⟩ := addAll_new t.args S
            rw [hl', List.getElem?_append_right (by omega)] at hy
            rw [h2, hnil y (List.mem_of_getElem? hy)] at hz
            simp at hz
      · exact h

structure UInv (E : (Int → T) → Prop) (s : St) (m : Nat) : Prop where
  ok : GOk s.syms s.R
  idem : ∀ v, s.R (s.R v) = s.R v
  argo : ArgO s.syms
  symr : ∀ v, 256 ≤ v → 256 ≤ s.R v
  vmin : ∀ v, v < 256 → s.R v < 256 → s.R v ≤ v
  gen : ∀ θ, E θ → LinkEq s.syms s.R θ ∧ ∀ p ∈ s.stk, PairEq s.syms θ p
  cmp : ∀ θ, LinkEq s.syms s.R θ → (∀ p ∈ s.stk, PairEq s.syms θ p) → E θ
  cong : ∀ v, 256 ≤ v → s.R v ≠ v → alikeB (symT s.syms v) (symT s.syms (s.R v)) = true ∧ (nodesOf s.syms v).length = (symT s.syms v).args.length ∧ (nodesOf s.syms (s.R v)).length = (symT s.syms (s.R v)).args.length ∧ ∀ (k : Nat) (x y : Int), (nodesOf s.syms v)[k]? = some x → (nodesOf s.syms (s.R v))[k]? = some y → Eqv s.R s.stk x y
  vars : s.vars.Nodup ∧ ∀ z, z ∈ s.vars ↔ (z < 256 ∧ s.R z ≠ z)
  bd : ∃ l : List Int, l.Nodup ∧ l.length = s.n ∧ ∀ z, z ∈ l ↔ s.R z ≠ z
  stkv : ∀ p ∈ s.stk, (0 ≤ p.1 ∧ p.1 < 256 + s.syms.length) ∧ (0 ≤ p.2 ∧ p.2 < 256 + s.syms.length)
  sl : s.stk.length ≤ 1 + 8 * s.n
  meas : m = 1001 * (5256 - s.n) + s.stk.length

section
variable {E : (Int → T) → Prop} {s : St} {m : Nat}
theorem UInv.n_le (h : UInv E s m) : s.n ≤ 5256 := by
  obtain ⟨l, h1, h2, h3⟩ := h.bd
  have hl := h.ok.len
  have := nodup_le (256 + s.syms.length) l h1 (fun z hz => by have := (h.ok.rv z ((h3 z).1 hz)).1; omega)
  omega
theorem UInv.vars_le (h : UInv E s m) : s.vars.length ≤ 256 := nodup_le 256 s.vars h.vars.1 (fun z hz => by
  have h1 := (h.vars.2 z).1 hz
  have := (h.ok.rv z h1.2).1
  omega)
theorem UInv.fit (h : UInv E s m) : Fit s := by
  have hl := h.ok.len
  have hn := h.n_le
  have hv := h.vars_le
  have hs := h.sl
  exact ⟨by omega, by omega, by omega, by omega, h.ok.sz, h.ok.made, fun p hp => by have := h.stkv p hp; omega, fun p hp => ⟨h.ok.root (h.stkv p hp).1.1 (h.stkv p hp).1.2, h.ok.root (h.stkv p hp).2.1 (h.stkv p hp).2.2⟩⟩
/-- Making the nodes of Args keeps it all. -/
theorem UInv.args (h : UInv E s m) (u : Int) : UInv E { s with syms := (argsOf s.syms u).1 } m := by
  obtain ⟨hok, hle, _⟩ := h.ok.args u
  have hown : ∀ v : Int, v < 256 + s.syms.length → ownU (argsOf s.syms u).1 v = ownU s.syms v := fun v hv => own_args u hv
  have hlk : ∀ θ, LinkEq (argsOf s.syms u).1 s.R θ ↔ LinkEq s.syms s.R θ := fun θ => by
    constructor
    · intro hh v hv
      have h1 := h.ok.rv v hv
      have := hh v hv
      rw [hown v h1.1.2, hown _ h1.2.2] at this
      exact this
    · intro hh v hv
      have h1 := h.ok.rv v hv
      rw [hown v h1.1.2, hown _ h1.2.2]
      exact hh v hv
  have hpr : ∀ θ p, p ∈ s.stk → (PairEq (argsOf s.syms u).1 θ p ↔ PairEq s.syms θ p) := fun θ p hp => by
    have := h.stkv p hp
    unfold PairEq
    rw [hown _ this.1.2, hown _ this.2.2]
  refine ⟨hok, h.idem, h.argo.args h.ok u, h.symr, h.vmin, fun θ hθ => ?_, fun θ h1 h2 => ?_, fun v hv0 hv => ?_, h.vars, h.bd, fun p hp => ?_, h.sl, h.meas⟩
  · exact ⟨(hlk θ).2 (h.gen θ hθ).1, fun p hp => (hpr θ p hp).2 ((h.gen θ hθ).2 p hp)⟩
  · exact h.cmp θ ((hlk θ).1 h1) (fun p hp => (hpr θ p hp).1 (h2 p hp))
  · obtain ⟨c1, c2, c3, c4⟩ := h.cong v hv0 hv
    have h1 := h.ok.rv v hv
    have hr := h.symr v hv0
    simp only
    rw [argsOf_symT u (by omega), argsOf_symT u (by omega), nodes_args u hv0 h1.1.2 c2, nodes_args u hr h1.2.2 c3]
    exact ⟨c1, c2, c3, c4⟩
  · have := h.stkv p hp; simp only; omega
end
theorem linkEq_join {S : List Sy} {R : Int → Int} {x y : Int} (hid : ∀ v, R (R v) = R v) (hx : R x = x) (hy : R y = y) (hne : x ≠ y) (θ : Int → T) : LinkEq S (join R x y) θ ↔ LinkEq S R θ ∧ (ownU S x).sub θ = (ownU S y).sub θ := by
  have hjx : join R x y x = y := by unfold join; rw [if_pos hx, hy]
  constructor
  · intro h
    have h1 : (ownU S x).sub θ = (ownU S y).sub θ := by
      have := h x (by rw [hjx]; exact fun e => hne e.symm)
      rw [hjx] at this
      exact this
    refine ⟨fun v hv => ?_, h1⟩
    by_cases e : R v = x
    · have hj : join R x y v = y := by unfold join; rw [if_pos e, hy]
      have hvy : y ≠ v := fun e2 => by subst e2; exact hv hy
      have := h v (by rw [hj]; exact hvy)
      rw [hj] at this
      rw [e, this, h1]
    · have hj : join R x y v = R v := by unfold join; rw [if_neg e]
      have := h v (by rw [hj]; exact hv)
      rw [hj] at this
      exact this
  · rintro ⟨h, h1⟩ v hv
    by_cases e : R v = x
    · have hj : join R x y v = y := by unfold join; rw [if_pos e, hy]
      rw [hj]
      by_cases e2 : R v = v
      · rw [← h1, ← e, e2]
      · rw [h v e2, e, h1]
    · have hj : join R x y v = R v := by unfold join; rw [if_neg e]
      rw [hj] at hv ⊢
      exact h v hv

end Go.Proofs.Ytcbjnfdhghhgeaa

/- Unification by links: the steps. Plain words. -/
namespace Go.Proofs.Ytcbjnfdhghhgeaa
set_option linter.unusedVariables false
set_option linter.unusedSimpArgs false
open Go.RowKit

theorem join_self {R : Int → Int} {x y v : Int} : (join R x y v = R v) ∨ (R v = x ∧ join R x y v = R y) := by
  unfold join
  split
  · rename_i h; exact .inr ⟨h, rfl⟩
  · exact .inl rfl
theorem join_congr {R : Int → Int} {x y u v : Int} (h : R u = R v) : join R x y u = join R x y v := by unfold join; rw [h]

/-- A new link, and what is pushed for it. -/
theorem UInv.link {E : (Int → T) → Prop} {s : St} {m : Nat} (h : UInv E s m) {p q x y : Int} {rest new : List (Int × Int)} {vars' : List Int} (hstk : s.stk = rest ++ [(p, q)]) (hx : s.R x = x) (hy : s.R y = y) (hne : x ≠ y) (hxv : 0 ≤ x ∧ x < 256 + s.syms.length) (hyv : 0 ≤ y ∧ y < 256 + s.syms.length)
    (hpq : (s.R p = x ∧ s.R q = y) ∨ (s.R p = y ∧ s.R q = x)) (hsym : 256 ≤ x → 256 ≤ y) (hmin : x < 256 → y < 256 → y ≤ x) (hvars : vars' = if x < 256 then s.vars ++ [x] else s.vars)
    (hnl : new.length ≤ 8) (hnv : ∀ r ∈ new, (0 ≤ r.1 ∧ r.1 < 256 + s.syms.length) ∧ (0 ≤ r.2 ∧ r.2 < 256 + s.syms.length)) (hng : ∀ θ, (ownU s.syms x).sub θ = (ownU s.syms y).sub θ → ∀ r ∈ new, PairEq s.syms θ r)
    (hc : 256 ≤ x → alikeB (symT s.syms x) (symT s.syms y) = true ∧ (nodesOf s.syms x).length = (symT s.syms x).args.length ∧ (nodesOf s.syms y).length = (symT s.syms y).args.length ∧ ∀ (k : Nat) (u v : Int), (nodesOf s.syms x)[k]? = some u → (nodesOf s.syms y)[k]? = some v → (u, v) ∈ new) :
    ∃ m', m' < m ∧ UInv E { s with n := s.n + 1, R := join s.R x y, vars := vars', stk := rest ++ new } m' := by
  have hjx : join s.R x y x = y := by unfold join; rw [if_pos hx, hy]
  have hjy : join s.R x y y = y := by unfold join; rw [if_neg (by rw [hy]; exact fun e => hne e.symm), hy]
  have hjR : ∀ v, join s.R x y v = if s.R v = x then y else s.R v := fun v => by unfold join; rw [hy]
  have hmem : (p, q) ∈ s.stk := by rw [hstk]; simp
  have hrest : ∀ r ∈ rest, r ∈ s.stk := fun r hr => by rw [hstk]; simp [hr]
  have hjpq : join s.R x y p = join s.R x y q := by
    rcases hpq with ⟨h1, h2⟩ | ⟨h1, h2⟩
    · rw [hjR, hjR, if_pos h1, h2, if_neg (fun e => hne e.symm)]
    · rw [hjR, hjR, h1, if_neg (fun e => hne e.symm), if_pos h2]
  have hidem : ∀ v, join s.R x y (join s.R x y v) = join s.R x y v := fun v => by
    rw [hjR v]
    split
    · rw [hjy]
    · rename_i e
      rw [hjR, h.idem, if_neg e]
  have hmono : ∀ {u v : Int}, Eqv s.R s.stk u v → Eqv (join s.R x y) (rest ++ new) u v := fun {u v} hh => hh.mono (fun a b hab => join_congr hab) (fun r hr => by
    rw [hstk] at hr
    rcases List.mem_append.1 hr with hr | hr
    · exact .pair (by simp [hr])
    · simp at hr; subst hr; exact .root hjpq)
  have hsymx : ∀ v, 256 ≤ v → s.R v = x → 256 ≤ x := fun v hv e => by rw [← e]; exact h.symr v hv
  have hbdn : ∃ l : List Int, l.Nodup ∧ l.length = s.n + 1 ∧ ∀ z, z ∈ l ↔ join s.R x y z ≠ z := by
    obtain ⟨l, l1, l2, l3⟩ := h.bd
    refine ⟨x :: l, List.nodup_cons.2 ⟨fun e => (l3 x).1 e hx, l1⟩, by simp [l2], fun z => ?_⟩
    rw [List.mem_cons, l3, hjR]
    constructor
    · rintro (rfl | hz)
      · rw [if_pos hx]; exact fun e => hne e.symm
      · split
        · intro e; subst e; exact hz hy
        · exact hz
    · intro hz
      split at hz
      · rename_i e
        by_cases e2 : s.R z = z
        · left; rw [← e2]; exact e
        · exact .inr e2
      · exact .inr hz
  have hokn : GOk s.syms (join s.R x y) := ⟨h.ok.pot, h.ok.sz, h.ok.head, h.ok.good, h.ok.made, h.ok.argv, fun v hv => by
    rw [hjR] at hv ⊢
    by_cases e : s.R v = x
    · rw [if_pos e]
      by_cases e2 : s.R v = v
      · rw [← e2, e]; exact ⟨hxv, hyv⟩
      · exact ⟨(h.ok.rv v e2).1, hyv⟩
    · rw [if_neg e] at hv ⊢
      exact h.ok.rv v hv⟩
  have hn1 : s.n + 1 ≤ 5256 := by
    obtain ⟨l, l1, l2, l3⟩ := hbdn
    have hl := h.ok.len
    have := nodup_le (256 + s.syms.length) l l1 (fun z hz => by have := (hokn.rv z ((l3 z).1 hz)).1; omega)
    omega
  have hsl : s.stk.length = rest.length + 1 := by rw [hstk]; simp
  have hsl0 := h.sl
  refine ⟨1001 * (5256 - (s.n + 1)) + (rest ++ new).length, ?_, ⟨hokn, hidem, h.argo, fun v hv => ?_, fun v hv hv2 => ?_, fun θ hθ => ?_, fun θ h1 h2 => ?_, fun v hv0 hv => ?_, ?_, hbdn, fun r hr => ?_, ?_, rfl⟩⟩
  · rw [h.meas, List.length_append, hsl]; omega
  · simp only
    rw [hjR]
    split
    · rename_i e; exact hsym (hsymx v hv e)
    · exact h.symr v hv
  · simp only at hv2 ⊢
    rw [hjR] at hv2 ⊢
    split at hv2
    · rename_i e
      rw [if_pos e]
      by_cases hx256 : x < 256
      · have h1 := hmin hx256 hv2
        have h2 := h.vmin v hv (by rw [e]; exact hx256)
        omega
      · have := hsym (by omega); omega
    · rename_i e
      rw [if_neg e]
      exact h.vmin v hv hv2
  · obtain ⟨g1, g2⟩ := h.gen θ hθ
    have gpq := g2 _ hmem
    unfold PairEq at gpq
    have hroot : ∀ v, (ownU s.syms v).sub θ = (ownU s.syms (s.R v)).sub θ := fun v => by
      by_cases e : s.R v = v
      · rw [e]
      · exact g1 v e
    have hxy : (ownU s.syms x).sub θ = (ownU s.syms y).sub θ := by
      rw [hroot p, hroot q] at gpq
      rcases hpq with ⟨h1, h2⟩ | ⟨h1, h2⟩
      · rw [h1, h2] at gpq; exact gpq
      · rw [h1, h2] at gpq; exact gpq.symm
    refine ⟨(linkEq_join h.idem hx hy hne θ).2 ⟨g1, hxy⟩, fun r hr => ?_⟩
    rcases List.mem_append.1 hr with hr | hr
    · exact g2 r (hrest r hr)
    · exact hng θ hxy r hr
  · obtain ⟨g1, hxy⟩ := (linkEq_join h.idem hx hy hne θ).1 h1
    have hroot : ∀ v, (ownU s.syms v).sub θ = (ownU s.syms (s.R v)).sub θ := fun v => by
      by_cases e : s.R v = v
      · rw [e]
      · exact g1 v e
    refine h.cmp θ g1 (fun r hr => ?_)
    rw [hstk] at hr
    rcases List.mem_append.1 hr with hr | hr
    · exact h2 r (by simp [hr])
    · simp at hr
      subst hr
      unfold PairEq
      rw [hroot p, hroot q]
      rcases hpq with ⟨h1, h2⟩ | ⟨h1, h2⟩
      · rw [h1, h2]; exact hxy
      · rw [h1, h2]; exact hxy.symm
  · simp only at hv ⊢
    rw [hjR] at hv ⊢
    by_cases e : s.R v = x
    · rw [if_pos e] at hv ⊢
      have hx256 := hsymx v hv0 e
      obtain ⟨d1, d2, d3, d4⟩ := hc hx256
      by_cases e2 : s.R v = v
      · rw [← e2, e]
        exact ⟨d1, d2, d3, fun k u w hu hw => .pair (by simp [d4 k u w hu hw])⟩
      · obtain ⟨c1, c2, c3, c4⟩ := h.cong v hv0 e2
        rw [e] at c1 c3 c4
        refine ⟨?_, c2, d3, fun k u w hu hw => ?_⟩
        · unfold alikeB at c1 d1 ⊢
          simp only [Bool.and_eq_true, decide_eq_true_iff] at c1 d1 ⊢
          exact ⟨c1.1.trans d1.1, c1.2.trans d1.2⟩
        · have hkl : k < (nodesOf s.syms x).length := by
            have h1 := (List.getElem?_eq_some_iff.1 hu).1
            unfold alikeB at c1
            simp only [Bool.and_eq_true, decide_eq_true_iff] at c1
            rw [c2, c1.2, ← c3] at h1
            exact h1
          exact (hmono (c4 k u _ hu (List.getElem?_eq_getElem hkl))).trans (.pair (by simp [d4 k _ w (List.getElem?_eq_getElem hkl) hw]))
    · rw [if_neg e] at hv ⊢
      obtain ⟨c1, c2, c3, c4⟩ := h.cong v hv0 hv
      exact ⟨c1, c2, c3, fun k u w hu hw => hmono (c4 k u w hu hw)⟩
  · simp only
    rw [hvars]
    split
    · rename_i hx256
      refine ⟨?_, fun z => ?_⟩
      · rw [List.nodup_append]
        exact ⟨h.vars.1, by simp, fun a ha b hb => by
          simp at hb
          subst hb
          rintro rfl
          exact ((h.vars.2 a).1 ha).2 hx⟩
      · rw [List.mem_append, h.vars.2, hjR]
        constructor
        · rintro (⟨h1, h2⟩ | hz)
          · refine ⟨h1, ?_⟩
            split
            · intro e; subst e; exact h2 hy
            · exact h2
          · simp at hz
            subst hz
            exact ⟨hx256, by rw [if_pos hx]; exact fun e => hne e.symm⟩
        · rintro ⟨h1, h2⟩
          split at h2
          · rename_i e
            by_cases e2 : s.R z = z
            · right; rw [← e, e2]; simp
            · exact .inl ⟨h1, e2⟩
          · exact .inl ⟨h1, h2⟩
    · rename_i hx256
      refine ⟨h.vars.1, fun z => ?_⟩
      rw [h.vars.2, hjR]
      constructor
      · rintro ⟨h1, h2⟩
        refine ⟨h1, ?_⟩
        split
        · intro e; subst e; exact h2 hy
        · exact h2
      · rintro ⟨h1, h2⟩
        refine ⟨h1, ?_⟩
        split at h2
        · rename_i e
          intro e2
          rw [← e, e2] at hx256
          omega
        · exact h2
  · rcases List.mem_append.1 hr with hr | hr
    · exact h.stkv r (hrest r hr)
    · exact hnv r hr
  · simp only [List.length_append]
    omega

end Go.Proofs.Ytcbjnfdhghhgeaa

/- Unification by links: the steps hand on what holds; where there is none, nothing unifies. Plain words. -/
namespace Go.Proofs.Ytcbjnfdhghhgeaa
set_option linter.unusedVariables false
set_option linter.unusedSimpArgs false
open Go.RowKit

theorem UInv.pop {E : (Int → T) → Prop} {s : St} {m : Nat} (h : UInv E s m) {p q : Int} {rest : List (Int × Int)} (hstk : s.stk = rest ++ [(p, q)]) (he : s.R p = s.R q) : ∃ m', m' < m ∧ UInv E { s with stk := rest } m' := by
  have hsl : s.stk.length = rest.length + 1 := by rw [hstk]; simp
  have hsl0 := h.sl
  have hrest : ∀ r ∈ rest, r ∈ s.stk := fun r hr => by rw [hstk]; simp [hr]
  refine ⟨1001 * (5256 - s.n) + rest.length, by rw [h.meas, hsl]; omega, ⟨h.ok, h.idem, h.argo, h.symr, h.vmin, fun θ hθ => ⟨(h.gen θ hθ).1, fun r hr => (h.gen θ hθ).2 r (hrest r hr)⟩, fun θ h1 h2 => ?_, fun v hv0 hv => ?_, h.vars, h.bd, fun r hr => h.stkv r (hrest r hr), by simp only; omega, rfl⟩⟩
  · refine h.cmp θ h1 (fun r hr => ?_)
    rw [hstk] at hr
    rcases List.mem_append.1 hr with hr | hr
    · exact h2 r hr
    · simp at hr
      subst hr
      have hroot : ∀ v, (ownU s.syms v).sub θ = (ownU s.syms (s.R v)).sub θ := fun v => by
        by_cases e : s.R v = v
        · rw [e]
        · exact h1 v e
      unfold PairEq
      rw [hroot p, hroot q, he]
  · obtain ⟨c1, c2, c3, c4⟩ := h.cong v hv0 hv
    refine ⟨c1, c2, c3, fun k x y hx hy => (c4 k x y hx hy).mono (fun _ _ e => e) (fun r hr => ?_)⟩
    rw [hstk] at hr
    rcases List.mem_append.1 hr with hr | hr
    · exact .pair hr
    · simp at hr; subst hr; exact .root he

theorem arity_le {S : List Sy} {R : Int → Int} (h : GOk S R) {v : Int} (h0 : 256 ≤ v) (h1 : v < 256 + S.length) : (symT S v).args.length ≤ 8 ∧ ¬ (symT S v).head < 0 ∧ bad (T.subs 1 (symT S v)) = false := by
  obtain ⟨x, hx, e1, _⟩ := sym_get h0 h1
  have hm := List.mem_of_getElem? hx
  rw [e1]
  have g1 := h.head x hm
  have g2 := h.good x hm
  have g3 := good_head g2
  simp only [okB, if_neg g1, Bool.and_eq_true, decide_eq_true_iff] at g3
  exact ⟨by omega, g1, g2⟩
theorem sub_node_args {t u : T} {θ : Int → T} (ht : ¬ t.head < 0) (hu : ¬ u.head < 0) (h : t.sub θ = u.sub θ) : t.head = u.head ∧ t.args.length = u.args.length ∧ ∀ (k : Nat) (x y : T), t.args[k]? = some x → u.args[k]? = some y → x.sub θ = y.sub θ := by
  rw [T.sub_pos ht, T.sub_pos hu] at h
  have h1 : t.head = u.head := by have := congrArg T.head h; rw [T.head_node, T.head_node] at this; exact this
  have h2 : t.args.map (T.sub θ) = u.args.map (T.sub θ) := by have := congrArg T.args h; rw [T.args_node, T.args_node] at this; exact this
  refine ⟨h1, by have := congrArg List.length h2; simpa using this, fun k x y hx hy => ?_⟩
  have := congrArg (fun l => l[k]?) h2
  simp only [List.getElem?_map, hx, hy, Option.map_some, Option.some.injEq] at this
  exact this

theorem UInv.handing (E : (Int → T) → Prop) : Handing (UInv E) := by
  refine ⟨fun s m h => h.fit, fun s m p q rest s' h hstk hst => ?_⟩
  have hmem : (p, q) ∈ s.stk := by rw [hstk]; simp
  obtain ⟨⟨hp0, hp1⟩, ⟨hq0, hq1⟩⟩ := h.stkv _ hmem
  simp only at hp0 hp1 hq0 hq1
  have hap := h.ok.root hp0 hp1
  have hbq := h.ok.root hq0 hq1
  have hia := h.idem p
  have hib := h.idem q
  unfold ustep at hst
  simp only at hst
  split at hst
  · rename_i e
    cases hst
    exact h.pop hstk e
  rename_i hab
  split at hst
  · rename_i hv
    cases hst
    rcases Int.le_total (s.R p) (s.R q) with hle | hle
    · rw [Int.max_eq_right hle, Int.min_eq_left hle]
      exact (h.link (new := []) (vars' := s.vars ++ [s.R q]) hstk hib hia (fun e => hab e.symm) hbq hap (.inr ⟨rfl, rfl⟩) (fun e => by omega) (fun _ _ => hle) (by rw [if_pos hv.2]) (by simp) (by simp) (by simp) (fun e => by omega)).imp fun m' hm => by simpa using hm
    · rw [Int.max_eq_left hle, Int.min_eq_right hle]
      exact (h.link (new := []) (vars' := s.vars ++ [s.R p]) hstk hia hib hab hap hbq (.inl ⟨rfl, rfl⟩) (fun e => by omega) (fun _ _ => hle) (by rw [if_pos hv.1]) (by simp) (by simp) (by simp) (fun e => by omega)).imp fun m' hm => by simpa using hm
  rename_i hvv
  split at hst
  · rename_i hv
    cases hst
    exact (h.link (new := []) (vars' := s.vars ++ [s.R p]) hstk hia hib hab hap hbq (.inl ⟨rfl, rfl⟩) (fun e => by omega) (fun h1 h2 => absurd ⟨h1, h2⟩ hvv) (by rw [if_pos hv]) (by simp) (by simp) (by simp) (fun e => by omega)).imp fun m' hm => by simpa using hm
  rename_i hva
  split at hst
  · rename_i hv
    cases hst
    exact (h.link (new := []) (vars' := s.vars ++ [s.R q]) hstk hib hia (fun e => hab e.symm) hbq hap (.inr ⟨rfl, rfl⟩) (fun e => by omega) (fun h1 h2 => absurd ⟨h2, h1⟩ hvv) (by rw [if_pos hv]) (by simp) (by simp) (by simp) (fun e => by omega)).imp fun m' hm => by simpa using hm
  rename_i hvb
  split at hst
  · cases hst
  rename_i hal
  cases hst
  have hal' : alikeB (symT s.syms (s.R p)) (symT s.syms (s.R q)) = true := by simpa using hal
  generalize ha : s.R p = a at *
  generalize hb : s.R q = b at *
  -- the nodes of both are made
  have h1 := h.args a
  obtain ⟨ok1, le1, val1⟩ := h.ok.args a
  have h2 := h1.args b
  obtain ⟨ok2, le2, val2⟩ := ok1.args b
  simp only at h2
  have ea : symT (argsOf (argsOf s.syms a).1 b).1 a = symT s.syms a := by rw [argsOf_symT b (by omega), argsOf_symT a (by omega)]
  have eb : symT (argsOf (argsOf s.syms a).1 b).1 b = symT s.syms b := by rw [argsOf_symT b (by omega), argsOf_symT a (by omega)]
  have hla : (argsOf s.syms a).2.length = (symT s.syms a).args.length := argsOf_args hva (by omega) h.ok.made
  have hlb : (argsOf (argsOf s.syms a).1 b).2.length = (symT s.syms b).args.length := by rw [argsOf_args hvb (by omega) ok1.made, argsOf_symT a (by omega)]
  have na1 : nodesOf (argsOf s.syms a).1 a = (argsOf s.syms a).2 := nodes_self (by omega) (by omega)
  have na2 : nodesOf (argsOf (argsOf s.syms a).1 b).1 a = (argsOf s.syms a).2 := by
    rw [nodes_args b (by omega) (by omega) (by rw [na1, argsOf_symT a (by omega), hla]), na1]
  have nb2 : nodesOf (argsOf (argsOf s.syms a).1 b).1 b = (argsOf (argsOf s.syms a).1 b).2 := nodes_self (by omega) (by omega)
  obtain ⟨ara, hda, gda⟩ := arity_le h.ok (v := a) (by omega) hap.2
  obtain ⟨arb, hdb, gdb⟩ := arity_le h.ok (v := b) (by omega) hbq.2
  have halk : (symT s.syms a).head = (symT s.syms b).head ∧ (symT s.syms a).args.length = (symT s.syms b).args.length := by
    unfold alikeB at hal'
    simpa using hal'
  refine h2.link (x := a) (y := b) (new := ((argsOf s.syms a).2.zip (argsOf (argsOf s.syms a).1 b).2).reverse) (vars' := s.vars) hstk hia hib hab ⟨hap.1, by simp only; omega⟩ ⟨hbq.1, by simp only; omega⟩ (.inl ⟨ha, hb⟩) (fun _ => by omega) (fun e => by omega) (by rw [if_neg hva]) ?_ ?_ ?_ ?_
  · rw [List.length_reverse, List.length_zip]; omega
  · intro r hr
    rw [List.mem_reverse] at hr
    have hr1 := List.of_mem_zip (show (r.1, r.2) ∈ _ from hr)
    have := val1 _ hr1.1
    have := val2 _ hr1.2
    simp only
    omega
  · intro θ hθ r hr
    rw [List.mem_reverse] at hr
    simp only at hθ ⊢
    rw [own_sym (by omega), own_sym (by omega), ea, eb] at hθ
    obtain ⟨_, _, hch⟩ := sub_node_args hda hdb hθ
    obtain ⟨k, hk⟩ := List.getElem?_of_mem hr
    rw [show r = (r.1, r.2) from rfl, List.getElem?_zip_eq_some] at hk
    have hka := (List.getElem?_eq_some_iff.1 hk.1).1
    have hkb := (List.getElem?_eq_some_iff.1 hk.2).1
    have oa := h2.argo a r.1 ((symT s.syms a).args[k]'(by omega)) (by omega) (by simp only; omega) k (by rw [na2]; exact hk.1) (by simp only; rw [ea]; exact List.getElem?_eq_getElem (by omega))
    have ob := h2.argo b r.2 ((symT s.syms b).args[k]'(by omega)) (by omega) (by simp only; omega) k (by rw [nb2]; exact hk.2) (by simp only; rw [eb]; exact List.getElem?_eq_getElem (by omega))
    unfold PairEq
    simp only at oa ob
    rw [oa, ob]
    exact hch k _ _ (List.getElem?_eq_getElem (by omega)) (List.getElem?_eq_getElem (by omega))
  · intro _
    simp only
    rw [na2, nb2, ea, eb]
    refine ⟨hal', by omega, by omega, fun k u v hu hv => ?_⟩
    rw [List.mem_reverse]
    exact List.mem_of_getElem? (i := k) (by rw [List.getElem?_zip_eq_some]; exact ⟨hu, hv⟩)

/-- Where a step fails, nothing unifies. -/
theorem UInv.none {E : (Int → T) → Prop} {s : St} {m : Nat} (h : UInv E s m) {p q : Int} {rest : List (Int × Int)} (hstk : s.stk = rest ++ [(p, q)]) (hst : ustep s p q rest = none) (θ : Int → T) : ¬ E θ := fun hθ => by
  have hmem : (p, q) ∈ s.stk := by rw [hstk]; simp
  obtain ⟨⟨hp0, hp1⟩, ⟨hq0, hq1⟩⟩ := h.stkv _ hmem
  simp only at hp0 hp1 hq0 hq1
  have hap := h.ok.root hp0 hp1
  have hbq := h.ok.root hq0 hq1
  obtain ⟨g1, g2⟩ := h.gen θ hθ
  have gpq := g2 _ hmem
  unfold PairEq at gpq
  have hroot : ∀ v, (ownU s.syms v).sub θ = (ownU s.syms (s.R v)).sub θ := fun v => by
    by_cases e : s.R v = v
    · rw [e]
    · exact g1 v e
  simp only at gpq
  rw [hroot p, hroot q] at gpq
  unfold ustep at hst
  simp only at hst
  split at hst
  · cases hst
  split at hst
  · cases hst
  split at hst
  · cases hst
  rename_i hva
  split at hst
  · cases hst
  rename_i hvb
  split at hst
  · rename_i hal
    obtain ⟨_, hda, _⟩ := arity_le h.ok (v := s.R p) (by omega) hap.2
    obtain ⟨_, hdb, _⟩ := arity_le h.ok (v := s.R q) (by omega) hbq.2
    rw [own_sym (by omega), own_sym (by omega)] at gpq
    obtain ⟨e1, e2, _⟩ := sub_node_args hda hdb gpq
    unfold alikeB at hal
    rw [decide_eq_true e1, decide_eq_true e2] at hal
    cases hal
  · cases hst

end Go.Proofs.Ytcbjnfdhghhgeaa
