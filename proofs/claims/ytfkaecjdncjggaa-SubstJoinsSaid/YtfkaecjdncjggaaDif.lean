/- Where two terms differ first: plain definitions and lemmas; no program is named here. -/
import Derived.Test.YtfkaecjdncjggaaFrs
import Derived.Laws.OwnMore
import Derived.WalkSmall
namespace Go.Proofs.Ytfkaecjdncjggaa
set_option linter.unusedVariables false
set_option linter.unusedSimpArgs false
open Go.RowKit

mutual
def T.dif : T → T → Option (List (List T × List T))
  | .node _ as, t => T.difs as t.args
def T.difs : List T → List T → Option (List (List T × List T))
  | [], _ => none
  | _ :: _, [] => none
  | x :: xs, y :: ys => if x.head ≠ y.head ∨ x.args.length ≠ y.args.length then some [(x :: xs, y :: ys)] else
      match T.dif x y with
      | some s => some (s ++ [(xs, ys)])
      | none => T.difs xs ys
end

/-- What a visit of two terms in step comes to, from the lists that are still to be compared on, the innermost first. -/
def resume : List (List T × List T) → Option (List (List T × List T))
  | [] => none
  | p :: fs => match T.difs p.1 p.2 with
    | some s => some (s ++ fs)
    | none => resume fs

theorem T.dif_eq (x y : T) : T.dif x y = T.difs x.args y.args := by cases x; simp [T.dif, T.args]

def differ (x y : T) : Prop := x.head ≠ y.head ∨ x.args.length ≠ y.args.length

theorem resume_differ {x y : T} {xs ys : List T} {fs : List (List T × List T)} (h : differ x y) : resume ((x :: xs, y :: ys) :: fs) = some ((x :: xs, y :: ys) :: fs) := by
  unfold differ at h
  simp [resume, T.difs, h]
theorem resume_push {x y : T} {xs ys : List T} {fs : List (List T × List T)} (h : ¬ differ x y) : resume ((x :: xs, y :: ys) :: fs) = resume ((x.args, y.args) :: (xs, ys) :: fs) := by
  unfold differ at h
  simp only [resume, T.difs, if_neg h, T.dif_eq]
  cases T.difs x.args y.args with
  | none => rfl
  | some s => simp
theorem resume_pop {fs : List (List T × List T)} {ys : List T} : resume (([], ys) :: fs) = resume fs := by simp [resume, T.difs]
theorem resume_leaf {x y : T} {xs ys : List T} {fs : List (List T × List T)} (h : ¬ differ x y) (h0 : x.args = []) : resume ((x :: xs, y :: ys) :: fs) = resume ((xs, ys) :: fs) := by
  rw [resume_push h, h0, resume_pop]

mutual
theorem T.dif_self : (x : T) → T.dif x x = none
  | .node _ as => by simp only [T.dif, T.args]; exact T.difs_self as
theorem T.difs_self : (xs : List T) → T.difs xs xs = none
  | [] => by simp [T.difs]
  | x :: xs => by
    have h1 := T.dif_self x
    have h2 := T.difs_self xs
    simp [T.difs, h1, h2]
end

mutual
theorem T.eq_of_dif : (x y : T) → ¬ differ x y → T.dif x y = none → x = y
  | .node h as, .node k bs, hd, h0 => by
    simp only [differ, T.head, T.args, not_or, Decidable.not_not] at hd
    simp only [T.dif, T.args] at h0
    rw [hd.1, T.eq_of_difs as bs hd.2 h0]
theorem T.eq_of_difs : (xs ys : List T) → xs.length = ys.length → T.difs xs ys = none → xs = ys
  | [], ys, hl, _ => by simp at hl; rw [List.eq_nil_of_length_eq_zero hl.symm]
  | _ :: _, [], hl, _ => by simp at hl
  | x :: xs, y :: ys, hl, h0 => by
    rw [T.difs] at h0
    by_cases hd : x.head ≠ y.head ∨ x.args.length ≠ y.args.length
    · rw [if_pos hd] at h0; cases h0
    · rw [if_neg hd] at h0
      cases h1 : T.dif x y with
      | some s => rw [h1] at h0; cases h0
      | none =>
        rw [h1] at h0
        rw [T.eq_of_dif x y hd h1, T.eq_of_difs xs ys (by simpa using hl) h0]
end

theorem resume_none_iff (a b : T) : resume [([a], [b])] = none ↔ a = b := by
  constructor
  · intro h
    simp only [resume] at h
    cases h1 : T.difs [a] [b] with
    | some s => rw [h1] at h; cases h
    | none => have := T.eq_of_difs [a] [b] rfl h1; simpa using this
  · rintro rfl
    simp [resume, T.difs_self]

/-- A number that every step lowers. -/
def leftP : List (List T × List T) → Nat
  | [] => 0
  | p :: fs => 2 * T.sizes p.1 + 1 + leftP fs

theorem leftP_push {xs ys zs bs : List T} {j : Nat} {x : T} (hx : xs[j]? = some x) (fs : List (List T × List T)) : leftP ((x.args, zs) :: (xs.drop (j + 1), bs) :: fs) < leftP ((xs, ys) :: fs) := by
  have h1 := T.sizes_append (xs.take j) (xs.drop j)
  rw [List.take_append_drop, T.sizes_drop hx, T.size_eq] at h1
  simp only [leftP]; omega

/-! ### The stack of pairs in memory -/
def PFrs (n₁ : Nat) (W : World) : List (List T × List T) → List (Value × Value) → Prop
  | [], [] => True
  | p :: fs, v :: vs => (∃ a c, v.1 = .slice a p.1.length c ∧ IsArgs n₁ W p.1 a c) ∧ (∃ a c, v.2 = .slice a p.2.length c ∧ IsArgs n₁ W p.2 a c) ∧ p.1.length = p.2.length ∧ PFrs n₁ W fs vs
  | _, _ => False

theorem PFrs.length {n₁ : Nat} {W : World} : ∀ {fs : List (List T × List T)} {vs : List (Value × Value)}, PFrs n₁ W fs vs → fs.length = vs.length
  | [], [], _ => rfl
  | _ :: _, _ :: _, h => by simp [PFrs.length h.2.2.2]
  | [], _ :: _, h => h.elim
  | _ :: _, [], h => h.elim
theorem PFrs.below {n₁ : Nat} {W W' : World} (hb : Below n₁ W W') : ∀ {fs : List (List T × List T)} {vs : List (Value × Value)}, PFrs n₁ W fs vs → PFrs n₁ W' fs vs
  | [], [], _ => trivial
  | _ :: _, _ :: _, ⟨⟨a, c, h1, h2⟩, ⟨a', c', h3, h4⟩, h5, h6⟩ => ⟨⟨a, c, h1, h2.below hb⟩, ⟨a', c', h3, h4.below hb⟩, h5, PFrs.below hb h6⟩
  | [], _ :: _, h => h.elim
  | _ :: _, [], h => h.elim

/-- The cells of the row, the outermost pair first. -/
def prow : List (Value × Value) → List Value
  | [] => []
  | v :: vs => prow vs ++ [v.1, v.2]
theorem prow_length : ∀ vs : List (Value × Value), (prow vs).length = vs.length * 2
  | [] => rfl
  | v :: vs => by simp [prow, prow_length vs]; omega
theorem prow_fst (v : Value × Value) (vs : List (Value × Value)) : (prow (v :: vs))[vs.length * 2]? = some v.1 := by
  rw [prow, List.getElem?_append_right (by rw [prow_length]; exact Nat.le_refl _), prow_length]; simp
theorem prow_snd (v : Value × Value) (vs : List (Value × Value)) : (prow (v :: vs))[vs.length * 2 + 1]? = some v.2 := by
  rw [prow, List.getElem?_append_right (by rw [prow_length]; omega), prow_length]; simp
theorem prow_set (v : Value × Value) (vs : List (Value × Value)) (u1 u2 : Value) : ((prow (v :: vs)).set (vs.length * 2) u1).set (vs.length * 2 + 1) u2 = prow ((u1, u2) :: vs) := by
  rw [prow, List.set_append_right _ _ (by rw [prow_length]; exact Nat.le_refl _), List.set_append_right _ _ (by rw [prow_length]; omega), prow_length]
  simp [prow]

theorem drop_at {xs : List T} {j : Nat} {s : T} (h : xs[j]? = some s) : xs.drop j = s :: xs.drop (j + 1) := by
  obtain ⟨hi, e⟩ := List.getElem?_eq_some_iff.1 h
  rw [List.drop_eq_getElem_cons hi, e]
theorem resume_at_differ {xs ys : List T} {j : Nat} {s1 s2 : T} (h1 : xs[j]? = some s1) (h2 : ys[j]? = some s2) (hd : differ s1 s2) (fs : List (List T × List T)) : resume ((xs.drop j, ys.drop j) :: fs) = some ((xs.drop j, ys.drop j) :: fs) := by
  rw [drop_at h1, drop_at h2]; exact resume_differ hd
theorem resume_at_push {xs ys : List T} {j : Nat} {s1 s2 : T} (h1 : xs[j]? = some s1) (h2 : ys[j]? = some s2) (hd : ¬ differ s1 s2) (fs : List (List T × List T)) : resume ((xs.drop j, ys.drop j) :: fs) = resume ((s1.args, s2.args) :: (xs.drop (j + 1), ys.drop (j + 1)) :: fs) := by
  rw [drop_at h1, drop_at h2]; exact resume_push hd
theorem resume_at_leaf {xs ys : List T} {j : Nat} {s1 s2 : T} (h1 : xs[j]? = some s1) (h2 : ys[j]? = some s2) (hd : ¬ differ s1 s2) (h0 : s1.args.length = 0) (fs : List (List T × List T)) : resume ((xs.drop j, ys.drop j) :: fs) = resume ((xs.drop (j + 1), ys.drop (j + 1)) :: fs) := by
  rw [drop_at h1, drop_at h2]; exact resume_leaf hd (List.eq_nil_of_length_eq_zero h0)

theorem prow_store {w1 wx : World} {base : Nat} {e : TypeId} {g cap k : Nat} {v : Value × Value} {vs : List (Value × Value)} (hO : w1.ownsRow base e 2 (.slice (some ⟨g, 0, none⟩) (k + 1) cap) (k + 1) (prow (v :: vs))) (hk : k = vs.length) (hb : Below w1.heap.size w1 wx) (u1 u2 : Value) :
    (((wx.setCell ⟨g, k * 2, none⟩ u1).setCell ⟨g, k * 2 + 1, none⟩ u2).drew).ownsRow base e 2 (.slice (some ⟨g, 0, none⟩) (k + 1) cap) (k + 1) (prow ((u1, u2) :: vs)) ∧ Below base wx (((wx.setCell ⟨g, k * 2, none⟩ u1).setCell ⟨g, k * 2 + 1, none⟩ u2).drew) := by
  have hg := hO.lt g rfl
  have hO1 := ownsRow_block hO (hb.block g hg.2)
  have h2 := ((hO1.stored (k * 2) u1).1.stored (k * 2 + 1) u2).1
  subst hk
  rw [prow_set] at h2
  exact ⟨h2, (((Below.refl base wx).setCell (p := ⟨g, vs.length * 2, none⟩) hg.1 u1).setCell (p := ⟨g, vs.length * 2 + 1, none⟩) hg.1 u2).drew⟩

/-- The slice after its first j elements, as the slice expression gives it. -/
theorem IsArgs.tail {n₁ : Nat} {W : World} {ts : List T} {b o c : Nat} (h : IsArgs n₁ W ts (some ⟨b, o, none⟩) c) {j : Nat} (hj : j ≤ ts.length) :
    IsArgs n₁ W (ts.drop j) (some ⟨b, if c = j then o else o + j * 2, none⟩) (c - j) := by
  obtain ⟨h1, h2, h3⟩ := h
  refine ⟨by rw [List.length_drop]; omega, by omega, ?_⟩
  by_cases h : c = j
  · left; rw [List.drop_eq_nil_iff]; omega
  · rcases h3 with rfl | ⟨b', o', e, h4, h5⟩
    · left; simp
    · cases e
      right
      refine ⟨b, _, rfl, h4, ?_⟩
      rw [if_neg h]
      exact h5.drop j hj

end Go.Proofs.Ytfkaecjdncjggaa
