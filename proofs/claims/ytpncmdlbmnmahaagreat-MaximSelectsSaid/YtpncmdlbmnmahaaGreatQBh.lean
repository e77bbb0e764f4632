/- QBh: joined of Ord, SrF, Sz0. -/
import Derived.Test.YtpncmdlbmnmahaaGreatSub
import Derived.Test.YtpncmdlbmnmahaaGreatQBg
import Derived.Laws.OwnMore
import Derived.WalkSmall
import Derived.Test.YtpncmdlbmnmahaaGreatQBb
import Derived.Shelf.SlSortCmp.WholeK
import Derived.Test.YtpncmdlbmnmahaaGreatQBc
/- Ord: joined of Dif, Ord. -/
/- Where two terms differ first: plain definitions and lemmas; no program is named here. -/
namespace Go.Proofs.YtpncmdlbmnmahaaGreat
set_option linter.unusedVariables false
set_option linter.unusedSimpArgs false
open Go.RowKit
mutual
def T.dif : T → T → Option (List (List T × List T))
  | .node _ aas, t => T.difs aas t.args
def T.difs : List T → List T → Option (List (List T × List T))
  | [], _ => none
  | _ :: _, [] => none
  | x :: xs, y :: ys => if x.head ≠ y.head ∨ x.args.length ≠ y.args.length then some [(x :: xs, y :: ys)] else
      match T.dif x y with
      | some s => some (s ++ [(xs, ys)])
      | none => T.difs xs ys
end
/-- What a visit of two terms in step comes to, from the lists that are still to be compared on, the innermost first. -/
def resume : List (List T × List T) → Option (List (List T × List T))
  | [] => none
  | p :: fs => match T.difs p.1 p.2 with
    | some s => some (s ++ fs)
    | none => resume fs
theorem T.dif_eq (x y : T) : T.dif x y = T.difs x.args y.args := by cases x; simp [T.dif, T.args]
def differ (x y : T) : Prop := x.head ≠ y.head ∨ x.args.length ≠ y.args.length
theorem resume_differ {x y : T} {xs ys : List T} {fs : List (List T × List T)} (h : differ x y) : resume ((x :: xs, y :: ys) :: fs) = some ((x :: xs, y :: ys) :: fs) := by
  unfold differ at h
  simp [resume, T.difs, h]
theorem resume_push {x y : T} {xs ys : List T} {fs : List (List T × List T)} (h : ¬ differ x y) : resume ((x :: xs, y :: ys) :: fs) = resume ((x.args, y.args) :: (xs, ys) :: fs) := by
  unfold differ at h
  simp only [resume, T.difs, if_neg h, T.dif_eq]
  cases T.difs x.args y.args with
  | none => rfl
  | some s => simp
theorem resume_pop {fs : List (List T × List T)} {ys : List T} : resume (([], ys) :: fs) = resume fs := by simp [resume, T.difs]
theorem resume_leaf {x y : T} {xs ys : List T} {fs : List (List T × List T)} (h : ¬ differ x y) (h0 : x.args = []) : resume ((x :: xs, y :: ys) :: fs) = resume ((xs, ys) :: fs) := by
  rw [resume_push h, h0, resume_pop]
mutual
theorem T.dif_self : (x : T) → T.dif x x = none
  | .node _ aas => by simp only [T.dif, T.args]; exact T.difs_self aas
theorem T.difs_self : (xs : List T) → T.difs xs xs = none
  | [] => by simp [T.difs]
  | x :: xs => by
    have h1 := T.dif_self x
    have h2 := T.difs_self xs
    simp [T.difs, h1, h2]
end
mutual
theorem T.eq_of_dif : (x y : T) → ¬ differ x y → T.dif x y = none → x = y
  | .node h aas, .node k bs, hd, h0 => by
    simp only [differ, T.head, T.args, not_or, Decidable.not_not] at hd
    simp only [T.dif, T.args] at h0
    rw [hd.1, T.eq_of_difs aas bs hd.2 h0]
theorem T.eq_of_difs : (xs ys : List T) → xs.length = ys.length → T.difs xs ys = none → xs = ys
  | [], ys, hl, _ => by simp at hl; rw [List.eq_nil_of_length_eq_zero hl.symm]
  | _ :: _, [], hl, _ => by simp at hl
  | x :: xs, y :: ys, hl, h0 => by
    rw [T.difs] at h0
    by_cases hd : x.head ≠ y.head ∨ x.args.length ≠ y.args.length
    · rw [if_pos hd] at h0; cases h0
    · rw [if_neg hd] at h0
      cases h1 : T.dif x y with
      | some s => rw [h1] at h0; cases h0
      | none =>
        rw [h1] at h0
        rw [T.eq_of_dif x y hd h1, T.eq_of_difs xs ys (by simpa using hl) h0]
end
theorem resume_none_iff (a b : T) : resume [([a], [b])] = none ↔ a = b := by
  constructor
  · intro h
    simp only [resume] at h
    cases h1 : T.difs [a] [b] with
    | some s => rw [h1] at h; cases h
    | none => have := T.eq_of_difs [a] [b] rfl h1; simpa using this
  · rintro rfl
    simp [resume, T.difs_self]
/-- A number that every step lowers. -/
def leftP : List (List T × List T) → Nat
  | [] => 0
  | p :: fs => 2 * T.sizes p.1 + 1 + leftP fs
theorem leftP_push {xs ys zs bs : List T} {j : Nat} {x : T} (hx : xs[j]? = some x) (fs : List (List T × List T)) : leftP ((x.args, zs) :: (xs.drop (j + 1), bs) :: fs) < leftP ((xs, ys) :: fs) := by
  have h1 := T.sizes_append (xs.take j) (xs.drop j)
  rw [List.take_append_drop, T.sizes_drop hx, T.size_eq] at h1
  simp only [leftP]; omega
/-! ### The stack of pairs in memory -/
def PFrs (n₁ : Nat) (W : World) : List (List T × List T) → List (Value × Value) → Prop
  | [], [] => True
  | p :: fs, v :: vs => (∃ a c, v.1 = .slice a p.1.length c ∧ IsArgs n₁ W p.1 a c) ∧ (∃ a c, v.2 = .slice a p.2.length c ∧ IsArgs n₁ W p.2 a c) ∧ p.1.length = p.2.length ∧ PFrs n₁ W fs vs
  | _, _ => False
theorem PFrs.length {n₁ : Nat} {W : World} : ∀ {fs : List (List T × List T)} {vs : List (Value × Value)}, PFrs n₁ W fs vs → fs.length = vs.length
  | [], [], _ => rfl
  | _ :: _, _ :: _, h => by simp [PFrs.length h.2.2.2]
  | [], _ :: _, h => h.elim
  | _ :: _, [], h => h.elim
theorem PFrs.below {n₁ : Nat} {W W' : World} (hb : Below n₁ W W') : ∀ {fs : List (List T × List T)} {vs : List (Value × Value)}, PFrs n₁ W fs vs → PFrs n₁ W' fs vs
  | [], [], _ => trivial
  | _ :: _, _ :: _, ⟨⟨a, c, h1, h2⟩, ⟨a', c', h3, h4⟩, h5, h6⟩ => ⟨⟨a, c, h1, h2.below hb⟩, ⟨a', c', h3, h4.below hb⟩, h5, PFrs.below hb h6⟩
  | [], _ :: _, h => h.elim
  | _ :: _, [], h => h.elim
/-- The cells of the row, the outermost pair first. -/
def prow : List (Value × Value) → List Value
  | [] => []
  | v :: vs => prow vs ++ [v.1, v.2]
theorem prow_length : ∀ vs : List (Value × Value), (prow vs).length = vs.length * 2
  | [] => rfl
  | v :: vs => by simp [prow, prow_length vs]; omega
theorem prow_fst (v : Value × Value) (vs : List (Value × Value)) : (prow (v :: vs))[vs.length * 2]? = some v.1 := by
  rw [prow, List.getElem?_append_right (by rw [prow_length]; exact Nat.le_refl _), prow_length]; simp
theorem prow_snd (v : Value × Value) (vs : List (Value × Value)) : (prow (v :: vs))[vs.length * 2 + 1]? = some v.2 := by
  rw [prow, List.getElem?_append_right (by rw [prow_length]; omega), prow_length]; simp
theorem prow_set (v : Value × Value) (vs : List (Value × Value)) (u1 u2 : Value) : ((prow (v :: vs)).set (vs.length * 2) u1).set (vs.length * 2 + 1) u2 = prow ((u1, u2) :: vs) := by
  rw [prow, List.set_append_right _ _ (by rw [prow_length]; exact Nat.le_refl _), List.set_append_right _ _ (by rw [prow_length]; omega), prow_length]
  simp [prow]
theorem drop_at {xs : List T} {j : Nat} {s : T} (h : xs[j]? = some s) : xs.drop j = s :: xs.drop (j + 1) := by
  obtain ⟨hi, e⟩ := List.getElem?_eq_some_iff.1 h
  rw [List.drop_eq_getElem_cons hi, e]
theorem resume_at_differ {xs ys : List T} {j : Nat} {s1 s2 : T} (h1 : xs[j]? = some s1) (h2 : ys[j]? = some s2) (hd : differ s1 s2) (fs : List (List T × List T)) : resume ((xs.drop j, ys.drop j) :: fs) = some ((xs.drop j, ys.drop j) :: fs) := by
  rw [drop_at h1, drop_at h2]; exact resume_differ hd
theorem resume_at_push {xs ys : List T} {j : Nat} {s1 s2 : T} (h1 : xs[j]? = some s1) (h2 : ys[j]? = some s2) (hd : ¬ differ s1 s2) (fs : List (List T × List T)) : resume ((xs.drop j, ys.drop j) :: fs) = resume ((s1.args, s2.args) :: (xs.drop (j + 1), ys.drop (j + 1)) :: fs) := by
  rw [drop_at h1, drop_at h2]; exact resume_push hd
theorem resume_at_leaf {xs ys : List T} {j : Nat} {s1 s2 : T} (h1 : xs[j]? = some s1) (h2 : ys[j]? = some s2) (hd : ¬ differ s1 s2) (h0 : s1.args.length = 0) (fs : List (List T × List T)) : resume ((xs.drop j, ys.drop j) :: fs) = resume ((xs.drop (j + 1), ys.drop (j + 1)) :: fs) := by
  rw [drop_at h1, drop_at h2]; exact resume_leaf hd (List.eq_nil_of_length_eq_zero h0)
theorem prow_store {w1 wx : World} {base : Nat} {e : TypeId} {g cap k : Nat} {v : Value × Value} {vs : List (Value × Value)} (hO : w1.ownsRow base e 2 (.slice (some ⟨g, 0, none⟩) (k + 1) cap) (k + 1) (prow (v :: vs))) (hk : k = vs.length) (hb : Below w1.heap.size w1 wx) (u1 u2 : Value) :
    (((wx.setCell ⟨g, k * 2, none⟩ u1).setCell ⟨g, k * 2 + 1, none⟩ u2).drew).ownsRow base e 2 (.slice (some ⟨g, 0, none⟩) (k + 1) cap) (k + 1) (prow ((u1, u2) :: vs)) ∧ Below base wx (((wx.setCell ⟨g, k * 2, none⟩ u1).setCell ⟨g, k * 2 + 1, none⟩ u2).drew) := by
  have hg := hO.lt g rfl
  have hO1 := ownsRow_block hO (hb.block g hg.2)
  have h2 := ((hO1.stored (k * 2) u1).1.stored (k * 2 + 1) u2).1
  subst hk
  rw [prow_set] at h2
  exact ⟨h2, (((Below.refl base wx).setCell (p := ⟨g, vs.length * 2, none⟩) hg.1 u1).setCell (p := ⟨g, vs.length * 2 + 1, none⟩) hg.1 u2).drew⟩
/-- The slice after its first j elements, aas the slice expression gives it. -/
theorem IsArgs.tail {n₁ : Nat} {W : World} {ts : List T} {b o c : Nat} (h : IsArgs n₁ W ts (some ⟨b, o, none⟩) c) {j : Nat} (hj : j ≤ ts.length) :
    IsArgs n₁ W (ts.drop j) (some ⟨b, if c = j then o else o + j * 2, none⟩) (c - j) := by
  obtain ⟨h1, h2, h3⟩ := h
  refine ⟨by rw [List.length_drop]; omega, by omega, ?_⟩
  by_cases h : c = j
  · left; rw [List.drop_eq_nil_iff]; omega
  · rcases h3 with rfl | ⟨b', o', e, h4, h5⟩
    · left; simp
    · cases e
      right
      refine ⟨b, _, rfl, h4, ?_⟩
      rw [if_neg h]
      exact h5.drop j hj
end Go.Proofs.YtpncmdlbmnmahaaGreat
/- The order of terms: plain lemmas; no program is named here. -/
namespace Go.Proofs.YtpncmdlbmnmahaaGreat
set_option linter.unusedVariables false
set_option linter.unusedSimpArgs false
/-- The first of three that is not 0; else the third. -/
def orL3 (a b c : Int) : Int := if a ≠ 0 then a else if b ≠ 0 then b else c
theorem ord_lt {a b : Int} : ord a b < 0 ↔ a < b := by unfold ord; split <;> (try split) <;> omega
theorem ord_neg (a b : Int) : ord b a = - ord a b := by unfold ord; split <;> (try split) <;> (try split) <;> omega
theorem ord_sub (a b : Int) : ord (a - b) 0 = ord a b := by unfold ord; split <;> (try split) <;> (try split) <;> (try split) <;> omega
theorem T.cmp_size {x y : T} (h : x.size ≠ y.size) : T.cmp x y = ord x.size y.size := by rw [T.cmp_eq, if_pos h]
theorem T.cmp_head {x y : T} (h1 : x.size = y.size) (h2 : x.head ≠ y.head) : T.cmp x y = ord x.head y.head := by rw [T.cmp_eq, if_neg (by omega), if_pos h2]
theorem T.cmp_len {x y : T} (h1 : x.size = y.size) (h2 : x.head = y.head) (h3 : x.args.length ≠ y.args.length) : T.cmp x y = ord x.args.length y.args.length := by rw [T.cmp_eq, if_neg (by omega), if_neg (by omega), if_pos h3]
theorem T.cmp_args {x y : T} (h1 : x.size = y.size) (h2 : x.head = y.head) (h3 : x.args.length = y.args.length) : T.cmp x y = T.cmps x.args y.args := by rw [T.cmp_eq, if_neg (by omega), if_neg (by omega), if_neg (by omega)]
mutual
theorem T.cmp_self : (x : T) → T.cmp x x = 0
  | .node h ts => by
    rw [T.cmp_eq]
    simp only [ne_eq, not_true_eq_false, if_false]
    exact T.cmps_self ts
theorem T.cmps_self : (xs : List T) → T.cmps xs xs = 0
  | [] => by simp [T.cmps]
  | x :: xs => by simp [T.cmps, T.cmp_self x, T.cmps_self xs]
end
mutual
theorem T.eq_of_cmp : (x y : T) → T.cmp x y = 0 → x = y
  | .node h ts, .node k us, h0 => by
    rw [T.cmp_eq] at h0
    split at h0
    · rename_i h1; rw [ord_zero] at h0; omega
    split at h0
    · rename_i h1; rw [ord_zero] at h0; exact absurd h0 h1
    split at h0
    · rename_i h1; rw [ord_zero] at h0; omega
    rename_i _ h1 h2
    simp only [T.head, T.args, ne_eq, Decidable.not_not] at h1 h2 h0
    rw [h1, T.eq_of_cmps ts us h2 h0]
theorem T.eq_of_cmps : (xs ys : List T) → xs.length = ys.length → T.cmps xs ys = 0 → xs = ys
  | [], ys, hl, _ => by simp at hl; rw [List.eq_nil_of_length_eq_zero hl.symm]
  | _ :: _, [], hl, _ => by simp at hl
  | x :: xs, y :: ys, hl, h0 => by
    rw [T.cmps] at h0
    split at h0
    · rename_i h1; exact absurd h0 h1
    · rename_i h1
      simp only [ne_eq, Decidable.not_not] at h1
      rw [T.eq_of_cmp x y h1, T.eq_of_cmps xs ys (by simpa using hl) h0]
end
theorem T.cmp_zero {x y : T} : T.cmp x y = 0 ↔ x = y := ⟨T.eq_of_cmp x y, fun h => by rw [h, T.cmp_self]⟩
mutual
theorem T.cmp_neg : (x y : T) → T.cmp y x = - T.cmp x y
  | .node h ts, .node k us => by
    by_cases h1 : (T.node h ts).size = (T.node k us).size
    · by_cases h2 : (T.node h ts).head = (T.node k us).head
      · by_cases h3 : (T.node h ts).args.length = (T.node k us).args.length
        · rw [T.cmp_args h1 h2 h3, T.cmp_args h1.symm h2.symm h3.symm]
          exact T.cmps_neg ts us
        · rw [T.cmp_len h1 h2 h3, T.cmp_len h1.symm h2.symm (Ne.symm h3)]; exact ord_neg _ _
      · rw [T.cmp_head h1 h2, T.cmp_head h1.symm (Ne.symm h2)]; exact ord_neg _ _
    · rw [T.cmp_size h1, T.cmp_size (Ne.symm h1)]; exact ord_neg _ _
theorem T.cmps_neg : (xs ys : List T) → T.cmps ys xs = - T.cmps xs ys
  | [], [] => by simp [T.cmps]
  | [], _ :: _ => by simp [T.cmps]
  | _ :: _, [] => by simp [T.cmps]
  | x :: xs, y :: ys => by
    have h1 := T.cmp_neg x y
    have h2 := T.cmps_neg xs ys
    rw [T.cmps, T.cmps]
    by_cases h : T.cmp x y = 0
    · rw [if_neg (by simp; omega), if_neg (by simpa using h)]; exact h2
    · rw [if_pos (by simp; omega), if_pos h]; exact h1
end
theorem T.cmp_lt {x y : T} : T.cmp x y < 0 ↔ x.size < y.size ∨ (x.size = y.size ∧ (x.head < y.head ∨ (x.head = y.head ∧ (x.args.length < y.args.length ∨ (x.args.length = y.args.length ∧ T.cmps x.args y.args < 0))))) := by
  rw [T.cmp_eq]
  by_cases h1 : x.size = y.size
  · rw [if_neg (by omega)]
    by_cases h2 : x.head = y.head
    · rw [if_neg (by simpa using h2)]
      by_cases h3 : x.args.length = y.args.length
      · rw [if_neg (by omega)]
        constructor
        · intro h; exact .inr ⟨h1, .inr ⟨h2, .inr ⟨h3, h⟩⟩⟩
        · rintro (h | ⟨_, h | ⟨_, h | ⟨_, h⟩⟩⟩)
          · omega
          · omega
          · omega
          · exact h
      · rw [if_pos (by omega), ord_lt]; omega
    · rw [if_pos (by simpa using h2), ord_lt]; omega
  · rw [if_pos (by omega), ord_lt]; omega
theorem T.cmps_lt {x y : T} {xs ys : List T} : T.cmps (x :: xs) (y :: ys) < 0 ↔ T.cmp x y < 0 ∨ (x = y ∧ T.cmps xs ys < 0) := by
  rw [T.cmps]
  by_cases h : T.cmp x y = 0
  · rw [if_neg (by simpa using h)]
    have := T.cmp_zero.1 h
    constructor
    · intro hh; exact .inr ⟨this, hh⟩
    · rintro (hh | ⟨_, hh⟩)
      · omega
      · exact hh
  · rw [if_pos h]
    constructor
    · intro hh; exact .inl hh
    · rintro (hh | ⟨hh, _⟩)
      · exact hh
      · exact absurd (T.cmp_zero.2 hh) h
mutual
theorem T.cmp_trans : (x y z : T) → T.cmp x y < 0 → T.cmp y z < 0 → T.cmp x z < 0
  | .node h ts, .node k us, .node m vs, h1, h2 => by
    rw [T.cmp_lt] at h1 h2 ⊢
    have hl : ts.length = us.length → us.length = vs.length → T.cmps ts us < 0 → T.cmps us vs < 0 → T.cmps ts vs < 0 := fun e1 e2 q1 q2 => T.cmps_trans ts us vs e1 e2 q1 q2
    simp only [T.head, T.args] at h1 h2 ⊢
    rcases h1 with h1 | ⟨a1, h1 | ⟨a2, h1 | ⟨a3, h1⟩⟩⟩ <;> rcases h2 with h2 | ⟨b1, h2 | ⟨b2, h2 | ⟨b3, h2⟩⟩⟩ <;> (try omega)
theorem T.cmps_trans : (xs ys zs : List T) → xs.length = ys.length → ys.length = zs.length → T.cmps xs ys < 0 → T.cmps ys zs < 0 → T.cmps xs zs < 0
  | [], _, _, _, _, h1, _ => by simp [T.cmps] at h1
  | _ :: _, [], _, hl, _, _, _ => by simp at hl
  | _ :: _, _ :: _, [], _, hl, _, _ => by simp at hl
  | x :: xs, y :: ys, z :: zs, l1, l2, h1, h2 => by
    rw [T.cmps_lt] at h1 h2 ⊢
    rcases h1 with h1 | ⟨rfl, h1⟩
    · rcases h2 with h2 | ⟨rfl, h2⟩
      · exact .inl (T.cmp_trans x y z h1 h2)
      · exact .inl h1
    · rcases h2 with h2 | ⟨rfl, h2⟩
      · exact .inl h2
      · exact .inr ⟨rfl, T.cmps_trans xs ys zs (by simpa using l1) (by simpa using l2) h1 h2⟩
end
theorem T.cmp_le_trans {x y z : T} (h1 : T.cmp x y ≤ 0) (h2 : T.cmp y z ≤ 0) : T.cmp x z ≤ 0 ∧ ((T.cmp x y < 0 ∨ T.cmp y z < 0) ↔ T.cmp x z < 0) := by
  by_cases e1 : T.cmp x y = 0
  · obtain rfl := T.cmp_zero.1 e1
    rw [T.cmp_self] at h1 ⊢
    exact ⟨h2, by simp⟩
  · by_cases e2 : T.cmp y z = 0
    · obtain rfl := T.cmp_zero.1 e2
      rw [T.cmp_self]
      exact ⟨h1, by simp⟩
    · have := T.cmp_trans x y z (by omega) (by omega)
      exact ⟨by omega, by omega⟩
/-! ### How Compare comes to the order, frame by frame -/
def cstep (go : Int × Int) (p : List T × List T) : Int × Int :=
  (go.1 + ((T.sizes p.1 : Int) - T.sizes p.2), if go.1 + ((T.sizes p.1 : Int) - T.sizes p.2) ≠ 0 then ord (go.1 + ((T.sizes p.1 : Int) - T.sizes p.2)) 0 else go.2)
/-- What stands for two lists: the difference of their sizes; how they stand. -/
def cval (xs ys : List T) : Int × Int := ((T.sizes xs : Int) - T.sizes ys, if (T.sizes xs : Int) - T.sizes ys ≠ 0 then ord ((T.sizes xs : Int) - T.sizes ys) 0 else T.cmps xs ys)
theorem cstep_cons {x y : T} (hne : x ≠ y) (xs ys : List T) : cstep ((x.size : Int) - y.size, T.cmp x y) (xs, ys) = cval (x :: xs) (y :: ys) := by
  have h1 : (x.size : Int) - y.size + ((T.sizes xs : Int) - T.sizes ys) = (T.sizes (x :: xs) : Int) - T.sizes (y :: ys) := by simp [T.sizes]; omega
  have h2 : T.cmps (x :: xs) (y :: ys) = T.cmp x y := by rw [T.cmps, if_pos (fun h => hne (T.cmp_zero.1 h))]
  simp only [cstep, cval, h1, h2]
theorem differ_ne {x y : T} (h : differ x y) : x ≠ y := by rintro rfl; exact h.elim (fun h => h rfl) (fun h => h rfl)
mutual
theorem dif_fold : (x y : T) → ∀ s, T.dif x y = some s → ∃ x0 xs0 y0 ys0 rest, s = (x0 :: xs0, y0 :: ys0) :: rest ∧ differ x0 y0 ∧ ((xs0, ys0) :: rest).foldl cstep ((x0.size : Int) - y0.size, T.cmp x0 y0) = cval x.args y.args
  | .node h ts, y, s, hs => difs_fold ts y.args s (by rw [T.dif] at hs; exact hs)
theorem difs_fold : (xs ys : List T) → ∀ s, T.difs xs ys = some s → ∃ x0 xs0 y0 ys0 rest, s = (x0 :: xs0, y0 :: ys0) :: rest ∧ differ x0 y0 ∧ ((xs0, ys0) :: rest).foldl cstep ((x0.size : Int) - y0.size, T.cmp x0 y0) = cval xs ys
  | [], _, s, hs => by simp [T.difs] at hs
  | _ :: _, [], s, hs => by simp [T.difs] at hs
  | x :: xs, y :: ys, s, hs => by
    rw [T.difs] at hs
    by_cases hd : x.head ≠ y.head ∨ x.args.length ≠ y.args.length
    · rw [if_pos hd] at hs
      cases hs
      exact ⟨x, xs, y, ys, [], rfl, hd, by rw [List.foldl_cons, List.foldl_nil]; exact cstep_cons (differ_ne hd) xs ys⟩
    · rw [if_neg hd] at hs
      cases h1 : T.dif x y with
      | none =>
        rw [h1] at hs
        obtain ⟨x0, xs0, y0, ys0, rest, e, hd0, hf⟩ := difs_fold xs ys s hs
        have hxy : x = y := T.eq_of_dif x y hd h1
        subst hxy
        refine ⟨x0, xs0, y0, ys0, rest, e, hd0, ?_⟩
        rw [hf]
        have e1 : (T.sizes (x :: xs) : Int) - T.sizes (x :: ys) = (T.sizes xs : Int) - T.sizes ys := by simp [T.sizes]; omega
        have e2 : T.cmps (x :: xs) (x :: ys) = T.cmps xs ys := by rw [T.cmps, if_neg (by simp [T.cmp_self])]
        simp only [cval, e1, e2]
      | some s1 =>
        rw [h1] at hs
        cases hs
        obtain ⟨x0, xs0, y0, ys0, rest, e, hd0, hf⟩ := dif_fold x y s1 h1
        refine ⟨x0, xs0, y0, ys0, rest ++ [(xs, ys)], by rw [e]; rfl, hd0, ?_⟩
        have hne : x ≠ y := by rintro rfl; rw [T.dif_self] at h1; cases h1
        have hv : cval x.args y.args = ((x.size : Int) - y.size, T.cmp x y) := by
          have e1 : (T.sizes x.args : Int) - T.sizes y.args = (x.size : Int) - y.size := by rw [T.size_eq x, T.size_eq y]; omega
          have e2 := T.cmp_eq x y
          simp only [not_or, Decidable.not_not, ne_eq] at hd
          rw [if_neg (by simpa using hd.1 : ¬ x.head ≠ y.head), if_neg (by simpa using hd.2 : ¬ x.args.length ≠ y.args.length)] at e2
          simp only [cval, e1, ord_sub, e2]
          by_cases hz : x.size = y.size
          · rw [if_neg (by omega), if_neg (by omega)]
          · rw [if_pos (by omega), if_pos (by omega)]
        rw [show ((xs0, ys0) :: (rest ++ [(xs, ys)])) = ((xs0, ys0) :: rest) ++ [(xs, ys)] from rfl, List.foldl_append, hf, hv, List.foldl_cons, List.foldl_nil]
        exact cstep_cons hne xs ys
end
theorem resume_fold {a b : T} {fs : List (List T × List T)} (h : resume [([a], [b])] = some fs) : ∃ x0 xs0 y0 ys0 rest, fs = (x0 :: xs0, y0 :: ys0) :: rest ∧ differ x0 y0 ∧ (((xs0, ys0) :: rest).foldl cstep ((x0.size : Int) - y0.size, T.cmp x0 y0)).2 = T.cmp a b := by
  simp only [resume] at h
  cases h1 : T.difs [a] [b] with
  | none => rw [h1] at h; cases h
  | some s =>
    rw [h1] at h
    simp at h
    subst h
    obtain ⟨x0, xs0, y0, ys0, rest, e, hd, hf⟩ := difs_fold [a] [b] s h1
    refine ⟨x0, xs0, y0, ys0, rest, e, hd, ?_⟩
    rw [hf]
    have e1 : (T.sizes [a] : Int) - T.sizes [b] = (a.size : Int) - b.size := by simp [T.sizes]
    have e2 : T.cmps [a] [b] = T.cmp a b := by
      rw [T.cmps]
      by_cases hz : T.cmp a b = 0
      · rw [if_neg (by simpa using hz), hz]; simp [T.cmps]
      · rw [if_pos hz]
    simp only [cval, e1, e2, ord_sub]
    by_cases hz : a.size = b.size
    · rw [if_neg (by omega)]
    · rw [if_pos (by omega), T.cmp_eq, if_pos (by omega)]
/-- The terms in the frames are parts of the two terms, apart from one another. -/
def sum1 : List (List T × List T) → Nat
  | [] => 0
  | p :: fs => T.sizes p.1 + sum1 fs
def sum2 : List (List T × List T) → Nat
  | [] => 0
  | p :: fs => T.sizes p.2 + sum2 fs
theorem sum1_append (a b : List (List T × List T)) : sum1 (a ++ b) = sum1 a + sum1 b := by
  induction a with
  | nil => simp [sum1]
  | cons p a ih => simp [sum1, ih]; omega
theorem sum2_append (a b : List (List T × List T)) : sum2 (a ++ b) = sum2 a + sum2 b := by
  induction a with
  | nil => simp [sum2]
  | cons p a ih => simp [sum2, ih]; omega
mutual
theorem dif_sum : (x y : T) → ∀ s, T.dif x y = some s → sum1 s ≤ T.sizes x.args ∧ sum2 s ≤ T.sizes y.args
  | .node h ts, y, s, hs => difs_sum ts y.args s (by rw [T.dif] at hs; exact hs)
theorem difs_sum : (xs ys : List T) → ∀ s, T.difs xs ys = some s → sum1 s ≤ T.sizes xs ∧ sum2 s ≤ T.sizes ys
  | [], _, s, hs => by simp [T.difs] at hs
  | _ :: _, [], s, hs => by simp [T.difs] at hs
  | x :: xs, y :: ys, s, hs => by
    rw [T.difs] at hs
    split at hs
    · cases hs; simp [sum1, sum2]
    · cases h1 : T.dif x y with
      | none =>
        rw [h1] at hs
        have := difs_sum xs ys s hs
        simp only [T.sizes]; omega
      | some s1 =>
        rw [h1] at hs
        cases hs
        have h2 := dif_sum x y s1 h1
        have h3 := T.size_eq x
        have h4 := T.size_eq y
        simp only [sum1_append, sum2_append, sum1, sum2, T.sizes]; omega
end
theorem resume_sum {a b : T} {fs : List (List T × List T)} (h : resume [([a], [b])] = some fs) : sum1 fs ≤ a.size ∧ sum2 fs ≤ b.size := by
  simp only [resume] at h
  cases h1 : T.difs [a] [b] with
  | none => rw [h1] at h; cases h
  | some s =>
    rw [h1] at h
    simp at h
    subst h
    have := difs_sum [a] [b] s h1
    simpa [T.sizes] using this
/-- How Or of the three comparisons stands for two terms with another head or number of arguments. -/
theorem or_of_differ {x y : T} (h : differ x y) : orL3 (ord ((x.size : Int) - y.size) 0) (ord x.head y.head) (ord x.args.length y.args.length) = T.cmp x y := by
  rw [ord_sub]
  by_cases h1 : x.size = y.size
  · have z1 : ord (x.size : Int) y.size = 0 := by rw [ord_zero]; omega
    by_cases h2 : x.head = y.head
    · have z2 : ord x.head y.head = 0 := by rw [ord_zero]; exact h2
      rw [T.cmp_len h1 h2 (h.resolve_left (fun h => h h2)), z1, z2]; rfl
    · have z2 : ord x.head y.head ≠ 0 := fun e => h2 (ord_zero.1 e)
      rw [T.cmp_head h1 h2, z1, orL3, if_neg (by simp), if_pos z2]
  · have z1 : ord (x.size : Int) y.size ≠ 0 := fun e => h1 (by have := ord_zero.1 e; omega)
    rw [T.cmp_size h1, orL3, if_pos z1]
end Go.Proofs.YtpncmdlbmnmahaaGreat

/- The library's sort by a function of one's own, at rows of terms: plain facts and the contract, for any function that compares terms and lays but blocks of its own. -/
namespace Go.Proofs
open Go.Shelf
def Tryz.sortT_ren : Go.Shelf.Ren := ⟨fun | 6 => 100 | 15 => 126 | 14 => 125 | 28 => 146 | 29 => 147 | 20 => 138 | 21 => 139 | 22 => 140 | 23 => 141 | 24 => 142 | 25 => 143 | 26 => 144 | 27 => 145 | 46 => 152 | 47 => 153 | 48 => 154 | 49 => 155 | 50 => 156 | 57 => 157 | n => n, fun | 22 => 40 | 24 => 42 | 25 => 103 | 3 => 3 | 39 => 149 | 0 => 0 | 53 => 165 | 55 => 167 | 4 => 4 | 46 => 159 | 45 => 158 | 50 => 94 | 5 => 5 | 9 => 9 | 66 => 170 | 70 => 174 | 76 => 176 | 77 => 177 | n => n, fun | n => n⟩
theorem Tryz.sortT : Go.Proofs.SlLaysF0.n6 Tryz.prog Tryz.sortT_ren := {
  mixed := by kernel_rfl
  f6 := ⟨Tryz.f100.name, by decide, Tryz.func100.trans (congrArg some (by kernel_rfl))⟩
  f14 := ⟨Tryz.f125.name, by decide, Tryz.func125.trans (congrArg some (by kernel_rfl))⟩
  f15 := Tryz.func126.trans (congrArg some (by kernel_rfl))
  f20 := ⟨Tryz.f138.name, by decide, Tryz.func138.trans (congrArg some (by kernel_rfl))⟩
  f21 := ⟨Tryz.f139.name, by decide, Tryz.func139.trans (congrArg some (by kernel_rfl))⟩
  f22 := ⟨Tryz.f140.name, by decide, Tryz.func140.trans (congrArg some (by kernel_rfl))⟩
  f23 := ⟨Tryz.f141.name, by decide, Tryz.func141.trans (congrArg some (by kernel_rfl))⟩
  f24 := ⟨Tryz.f142.name, by decide, Tryz.func142.trans (congrArg some (by kernel_rfl))⟩
  f25 := ⟨Tryz.f143.name, by decide, Tryz.func143.trans (congrArg some (by kernel_rfl))⟩
  f26 := ⟨Tryz.f144.name, by decide, Tryz.func144.trans (congrArg some (by kernel_rfl))⟩
  f27 := ⟨Tryz.f145.name, by decide, Tryz.func145.trans (congrArg some (by kernel_rfl))⟩
  f28 := Tryz.func146.trans (congrArg some (by kernel_rfl))
  f29 := Tryz.func147.trans (congrArg some (by kernel_rfl))
  f46 := ⟨Tryz.f152.name, by decide, Tryz.func152.trans (congrArg some (by kernel_rfl))⟩
  f47 := Tryz.func153.trans (congrArg some (by kernel_rfl))
  f48 := Tryz.func154.trans (congrArg some (by kernel_rfl))
  f49 := ⟨Tryz.f155.name, by decide, Tryz.func155.trans (congrArg some (by kernel_rfl))⟩
  f50 := ⟨Tryz.f156.name, by decide, Tryz.func156.trans (congrArg some (by kernel_rfl))⟩
  f57 := ⟨Tryz.f157.name, by decide, Tryz.func157.trans (congrArg some (by kernel_rfl))⟩
  t0 := Tryz.underlying0
  a0 := Tryz.isAgg0
  z0 := Tryz.sizeOf0
  v0 := Tryz.zeroValue0
  t3 := Tryz.underlying3
  a3 := Tryz.isAgg3
  z3 := Tryz.sizeOf3
  v3 := Tryz.zeroValue3
  t4 := Tryz.underlying4
  a4 := Tryz.isAgg4
  z4 := Tryz.sizeOf4
  v4 := Tryz.zeroValue4
  t5 := Tryz.underlying5
  a5 := Tryz.isAgg5
  z5 := Tryz.sizeOf5
  v5 := Tryz.zeroValue5
  t9 := Tryz.underlying9
  a9 := Tryz.isAgg9
  z9 := Tryz.sizeOf9
  v9 := Tryz.zeroValue9
  t22 := Tryz.underlying40
  a22 := Tryz.isAgg40
  z22 := Tryz.sizeOf40
  v22 := Tryz.zeroValue40
  t25 := Tryz.underlying103
  a25 := Tryz.isAgg103
  z25 := Tryz.sizeOf103
  v25 := Tryz.zeroValue103
  t39 := Tryz.underlying149
  a39 := Tryz.isAgg149
  z39 := Tryz.sizeOf149
  v39 := Tryz.zeroValue149
  t45 := Tryz.underlying158
  a45 := Tryz.isAgg158
  z45 := Tryz.sizeOf158
  v45 := Tryz.zeroValue158
  t46 := Tryz.underlying159
  a46 := Tryz.isAgg159
  z46 := Tryz.sizeOf159
  v46 := Tryz.zeroValue159
  t50 := Tryz.underlying94
  a50 := Tryz.isAgg94
  z50 := Tryz.sizeOf94
  v50 := Tryz.zeroValue94
  t53 := Tryz.underlying165
  a53 := Tryz.isAgg165
  z53 := Tryz.sizeOf165
  v53 := Tryz.zeroValue165
  t55 := Tryz.underlying167
  a55 := Tryz.isAgg167
  z55 := Tryz.sizeOf167
  v55 := Tryz.zeroValue167
  t66 := Tryz.underlying170
  a66 := Tryz.isAgg170
  z66 := Tryz.sizeOf170
  v66 := Tryz.zeroValue170
  t70 := Tryz.underlying174
  a70 := Tryz.isAgg174
  z70 := Tryz.sizeOf174
  v70 := Tryz.zeroValue174
  t76 := Tryz.underlying176
  a76 := Tryz.isAgg176
  z76 := Tryz.sizeOf176
  v76 := Tryz.zeroValue176
  t77 := Tryz.underlying177
  a77 := Tryz.isAgg177
  z77 := Tryz.sizeOf177
  v77 := Tryz.zeroValue177 }
end Go.Proofs
namespace Go.Proofs.YtpncmdlbmnmahaaGreat
set_option linter.unusedVariables false
set_option linter.unusedSimpArgs false
open Go.RowKit
theorem grow_of {W w' : World} (h : Below W.heap.size W w') (hd : W.drawn ≤ w'.drawn) : ∃ q os, w' = Go.Sort.grow (W.drewN q) os := by
  refine ⟨w'.drawn - W.drawn, w'.heap.extract W.heap.size w'.heap.size, ?_⟩
  obtain ⟨h1, h2, h3, h4, h5⟩ := h
  have hh : w'.heap = W.heap ++ w'.heap.extract W.heap.size w'.heap.size := by
    apply Array.ext_getElem?
    intro i
    by_cases hi : i < W.heap.size
    · rw [Array.getElem?_append_left hi]; exact h5 i hi
    · rw [Array.getElem?_append_right (by omega), Array.getElem?_extract]
      split
      · congr 1; omega
      · rw [Array.getElem?_eq_none (by omega)]
  cases w' with
  | mk a b c d e =>
    simp only [Go.Sort.grow, World.drewN]
    dsimp only at h1 h2 h3 h4 hh hd
    rw [← hh, h1, h2, h3, Nat.add_sub_cancel' hd]
/-! ### At no element -/
set_option maxRecDepth 100000 in
theorem len64_zero' (w : World) : Calls Tryz.prog 147 #[.int .u64 0] w fun e w' => e = .returned (.int .i64 0) ∧ w' = w := by
  go_enter Tryz.func147, Tryz.ntmps147
  go_wp2
  go_ret
  exact ⟨by kernel_rfl, rfl⟩
theorem len_zero' (w : World) : Calls Tryz.prog 126 #[.int .u64 0] w fun e w' => e = .returned (.int .i64 0) ∧ w' = w := by
  go_enter Tryz.func126, Tryz.ntmps126
  go_wp2_with fail
  refine (len64_zero' w).mono ?_
  rintro e w' ⟨rfl, rfl⟩
  go_wp2
  go_ret
  exact ⟨rfl, rfl⟩
set_option maxRecDepth 100000 in
theorem insC_zero (p : Option Addr) (cap : Nat) (fv : Value) (w : World) : Calls Tryz.prog 138 #[.slice p 0 cap, .int .i64 0, .int .i64 0, fv] w fun e w' => e = .returned (.tuple #[]) ∧ w' = w := by
  go_enter Tryz.func138, Tryz.ntmps138
  go_wp2
  refine wp_loop_rounds 1 ?_
  rw [rounds_succ]
  go_wp2
  go_end0
  exact ⟨rfl, rfl⟩
set_option maxRecDepth 100000 in
theorem pdqC_zero (p : Option Addr) (cap : Nat) (fv : Value) (w : World) : Calls Tryz.prog 125 #[.slice p 0 cap, .int .i64 0, .int .i64 0, .int .i64 0, fv] w fun e w' => e = .returned (.tuple #[]) ∧ w' = w := by
  go_enter Tryz.func125, Tryz.ntmps125
  go_wp2
  refine wp_loop_rounds 1 ?_
  rw [rounds_succ]
  go_wp2_with fail
  refine (insC_zero p cap fv _).mono ?_
  rintro e w' ⟨rfl, rfl⟩
  go_wp2
  (try simp only [Exit.inBlock, Exit.then])
  refine bodyPost_ret (v := .tuple #[]) (by simp [results, Tryz.results125, go_sem]) rfl ?_
  exact ⟨rfl, rfl⟩
set_option maxRecDepth 100000 in
theorem sortC_zero (p : Option Addr) (cap : Nat) (fv : Value) (w : World) : Calls Tryz.prog 100 #[.slice p 0 cap, fv] w fun e w' => e = .returned (.tuple #[]) ∧ w' = w := by
  go_enter Tryz.func100, Tryz.ntmps100
  go_wp2_with fail
  refine (len_zero' _).mono ?_
  rintro e w' ⟨rfl, rfl⟩
  go_wp2_with fail
  refine (pdqC_zero p cap fv _).mono ?_
  rintro e w' ⟨rfl, rfl⟩
  go_wp2
  refine bodyPost_end (v := .tuple #[]) (by simp [results, Tryz.results100, go_sem]) rfl ?_
  exact ⟨rfl, rfl⟩
/-- What a function that is handed to the sort must be. -/
def CmpT (f : Nat) (cf : T → T → Int) (n₀ : Nat) (w : World) (ts : List T) : Prop :=
  ∀ (x y : T) (a : Option Addr) (c : Nat) (a' : Option Addr) (c' : Nat) (W : World), x ∈ ts → y ∈ ts → Below n₀ w W → (Lit.int .i64 x.head).wf = true → (Lit.int .i64 y.head).wf = true → IsArgs n₀ W x.args a c → IsArgs n₀ W y.args a' c' →
    Calls Tryz.prog f #[tm x.head a x.args.length c, tm y.head a' y.args.length c'] W fun e w' => e = .returned (.int .i64 (cf x y)) ∧ Below W.heap.size W w'
/-- An element of the row: a term of the row, with where its arguments lie. -/
structure El (n₀ : Nat) (w : World) (ts : List T) where
  t : T
  a : Option Addr
  c : Nat
  mem : t ∈ ts
  wf : (Lit.int .i64 t.head).wf = true
  args : IsArgs n₀ w t.args a c
def El.enc {n₀ : Nat} {w : World} {ts : List T} (x : El n₀ w ts) : List Value := [.int .i64 x.t.head, .slice x.a x.t.args.length x.c]
theorem els_of {n₀ : Nat} {w : World} {g : Nat} (all : List T) : ∀ (ts : List T) (o : Nat), (∀ t ∈ ts, t ∈ all) → IsRow n₀ w ts g o → ∃ d : List (El n₀ w all), d.map El.t = ts ∧ ∀ (j : Nat) (x : El n₀ w all), d[j]? = some x → w.cell? ⟨g, o + j * 2, none⟩ = some (.int .i64 x.t.head) ∧ w.cell? ⟨g, o + j * 2 + 1, none⟩ = some (.slice x.a x.t.args.length x.c)
  | [], o, _, _ => ⟨[], rfl, by simp⟩
  | t :: ts, o, hm, h => by
    simp only [IsRow] at h
    obtain ⟨ht, hr⟩ := h
    obtain ⟨d, h1, h2⟩ := els_of all ts (o + 2) (fun s hs => hm s (List.mem_cons_of_mem _ hs)) hr
    obtain ⟨wf, p1, a, c, p2, hA⟩ := isT_iff.1 ht
    refine ⟨⟨t, a, c, hm t (List.mem_cons_self ..), wf, hA⟩ :: d, by simp [h1], fun j x hj => ?_⟩
    cases j with
    | zero => simp at hj; subst hj; simpa using ⟨p1, p2⟩
    | succ j =>
      have := h2 j x (by simpa using hj)
      rw [show o + 2 + j * 2 = o + (j + 1) * 2 from by omega] at this
      exact this
theorem row_of_els {n₀ : Nat} {w w' : World} {g : Nat} {all : List T} (hb : Below n₀ w w') : ∀ (d : List (El n₀ w all)) (o : Nat), (∀ (j : Nat) (x : El n₀ w all), d[j]? = some x → w'.cell? ⟨g, o + j * 2, none⟩ = some (.int .i64 x.t.head) ∧ w'.cell? ⟨g, o + j * 2 + 1, none⟩ = some (.slice x.a x.t.args.length x.c)) → IsRow n₀ w' (d.map El.t) g o
  | [], o, _ => trivial
  | x :: d, o, h => by
    obtain ⟨h1, h2⟩ := h 0 x rfl
    simp only [List.map_cons, IsRow]
    refine ⟨isT_iff.2 ⟨x.wf, by simpa using h1, x.a, x.c, by simpa using h2, x.args.below hb⟩, row_of_els hb d (o + 2) (fun j y hj => ?_)⟩
    have := h (j + 1) y (by simpa using hj)
    rw [show o + (j + 1) * 2 = o + 2 + j * 2 from by omega] at this
    exact this
theorem sortT_any (f : Nat) (eg : ∀ args w, (callFunc f args).run Tryz.prog w = .ok (.enter f args) w) (cf : T → T → Int) (hO : ∀ {α : Type} (k : α → T), Go.Sort.SWO (Go.Proofs.ltOf fun x y => cf (k x) (k y))) (ts : List T) (hts : ts.length ≤ 1000000000000)
    (n₀ g cap : Nat) (w : World) (hn : n₀ ≤ g) (hg : g < w.heap.size) (hR : IsRow n₀ w ts g 0) (hfr : ∀ j, j < ts.length * 2 → w.frozen? ⟨g, j, none⟩ = false) (hC : CmpT f cf n₀ w ts) :
    Calls Tryz.prog 100 #[.slice (some ⟨g, 0, none⟩) ts.length cap, .func (.func f) #[] #[]] w fun e w' =>
      e = .returned (.tuple #[]) ∧ ∃ us, us.Perm ts ∧ us.Pairwise (fun x y => 0 ≤ cf y x) ∧ IsRow n₀ w' us g 0 ∧ w.grownBy w' (some g) := by
  cases hne : ts with
  | nil =>
    subst hne
    refine (sortC_zero (some ⟨g, 0, none⟩) cap _ w).mono ?_
    rintro e w' ⟨rfl, rfl⟩
    exact ⟨rfl, [], List.Perm.refl _, List.Pairwise.nil, trivial, ⟨rfl, rfl, rfl, Nat.le_refl _, fun _ _ _ => rfl⟩⟩
  | cons t0 ts0 =>
    rw [← hne]
    obtain ⟨d, hd1, hd2⟩ := els_of ts ts 0 (fun _ h => h) hR
    have hdl : d.length = ts.length := by have := congrArg List.length hd1; simpa using this
    have x0 : El n₀ w ts := d[0]'(by rw [hdl, hne]; simp)
    haveI : Inhabited (El n₀ w ts) := ⟨x0⟩
    have henc : ∀ (x : El n₀ w ts), x.enc.length = 2 := fun _ => rfl
    have h1 : ∀ (x : El n₀ w ts), ∀ v ∈ x.enc, v.oneCell' = true := fun x v hv => by
      simp only [El.enc, List.mem_cons, List.not_mem_nil, or_false] at hv
      rcases hv with rfl | rfl <;> rfl
    have hH : Go.Sort.HoldsK (El.enc) 2 w g 0 d.toArray := by
      intro j hj
      rw [Go.Sort.size_flatK] at hj
      rw [Go.Sort.get_flatK _ _ _ _ hj, Nat.zero_add]
      have hj2 : j < d.length * 2 := by simpa using hj
      have hi : j / 2 < d.length := by omega
      have hx : d.toArray[j / 2]! = d[j / 2] := by simp [hi]
      obtain ⟨c0, c1⟩ := hd2 (j / 2) d[j / 2] (List.getElem?_eq_getElem hi)
      refine ⟨?_, hfr j (by omega)⟩
      obtain ⟨x, hxx⟩ : ∃ x, d[j / 2] = x := ⟨_, rfl⟩
      rw [hxx] at hx c0 c1
      rw [hx]
      clear hxx
      rcases Nat.mod_two_eq_zero_or_one j with h | h
      · rw [h, show j = 0 + j / 2 * 2 from by omega]; simpa [El.enc] using c0
      · rw [h, show j = 0 + j / 2 * 2 + 1 from by omega]; simpa [El.enc] using c1
    have hW : ∀ (m : Nat) (os : Array Obj) (dk : Array (El n₀ w ts)), Below n₀ w (Go.Proofs.sortWorldK El.enc 2 w g 0 m dk os) := fun m os dk => by
      refine ⟨rfl, rfl, rfl, Go.Proofs.size_sortWorldK_c El.enc 2 w g 0 m dk os, fun k hk => ?_⟩
      unfold Go.Proofs.sortWorldK
      rw [Go.Sort.heap_grow_old _ _ (by rw [Go.Sort.size_putRowK]; show k < w.heap.size; omega)]
      unfold Go.Sort.putRowK Go.Sort.putRow Go.Sort.mapBlock
      simp only [Array.getElem?_modify]
      rw [if_neg (by omega)]
      rfl
    have hcmp : Go.Proofs.CmpLays Tryz.prog f #[] El.enc 2 (fun x y : El n₀ w ts => cf x.t y.t) g 0 d.toArray.size w := by
      intro m os dk hs x y
      refine (Calls.drawn (hC x.t y.t x.a x.c y.a y.c _ x.mem y.mem (hW m os dk) x.wf y.wf (x.args.below (hW m os dk)) (y.args.below (hW m os dk)))).mono ?_
      rintro e w' ⟨⟨rfl, hb⟩, hd⟩
      rcases hd with hd | hd
      · cases hd
      · exact ⟨rfl, grow_of hb hd⟩
    have h := AnyQ.slices_SortFunc Tryz.sortT 2 Tryz.isAgg42 Tryz.sizeOf42 El.enc henc h1 (fun x y : El n₀ w ts => cf x.t y.t) (hO El.t) f #[] g 0 cap d.toArray w eg hcmp hH hg (by simp; omega)
    rw [show d.toArray.size = ts.length from by simpa using hdl] at h
    refine h.mono ?_
    rintro e w' ⟨rfl, d', n, os, hp, hs, rfl⟩
    obtain ⟨hp1, _, hp3⟩ := hp
    have hsz : d'.size = ts.length := by rw [hp1]; simpa using hdl
    have e1 : d'.extract 0 ts.length = d' := by rw [← hsz]; simp
    have e2 : d.toArray.extract 0 ts.length = d.toArray := by rw [← hdl]; simp
    have hH' := Go.Proofs.holdsK_sortWorldK_c El.enc 2 w g 0 d.toArray d' n os hH hg (by rw [hsz]; simp [hdl])
    refine ⟨rfl, d'.toList.map El.t, ?_, ?_, ?_, ?_⟩
    · rw [e1, e2] at hp3
      exact (hp3.map El.t).trans (List.Perm.of_eq (by simpa using hd1))
    · rw [List.pairwise_map, List.pairwise_iff_getElem]
      intro i j hi hj hij
      have hj' : j < d'.size := by simpa using hj
      have hi' : i < d'.size := by simpa using hi
      have := hs i j (Nat.zero_le _) hij (by omega)
      unfold Go.Proofs.ltOf at this
      rw [decide_eq_false_iff_not] at this
      simp only [hj', hi', getElem!_pos] at this
      simp only [Array.getElem_toList]
      omega
    · refine row_of_els (hW n os d') d'.toList 0 (fun j x hj => ?_)
      obtain ⟨hjl, hje⟩ := List.getElem?_eq_some_iff.1 hj
      have hj' : j < d'.size := by simpa using hjl
      have hx : d'[j]! = x := by rw [← hje]; simp [hj']
      have q0 := (hH'.cell (i := j) (c := 0) hj' (by omega)).1
      have q1 := (hH'.cell (i := j) (c := 1) hj' (by omega)).1
      rw [hx] at q0 q1
      exact ⟨by simpa [El.enc] using q0, by simpa [El.enc] using q1⟩
    · refine ⟨rfl, rfl, rfl, Go.Proofs.size_sortWorldK_c El.enc 2 w g 0 n d' os, fun k hk hkg => ?_⟩
      unfold Go.Proofs.sortWorldK
      rw [Go.Sort.heap_grow_old _ _ (by rw [Go.Sort.size_putRowK]; exact hk)]
      unfold Go.Sort.putRowK Go.Sort.putRow Go.Sort.mapBlock
      simp only [Array.getElem?_modify]
      rw [if_neg (fun e => hkg (by rw [e]))]
      rfl
end Go.Proofs.YtpncmdlbmnmahaaGreat

/- Contract of Size: a loop over the iterator of subterms. -/
namespace Go.Proofs.YtpncmdlbmnmahaaGreat
set_option linter.unusedVariables false
set_option linter.unusedSimpArgs false
open Go.RowKit Go.Shelf
attribute [local go_sem] Oper.semAt_some
set_option maxRecDepth 100000 in
set_option maxHeartbeats 2000000 in
theorem size_any (t : T) (ht : t.size ≤ 1000000000000) (n₀ : Nat) (a : Option Addr) (c : Nat) (w : World) (hn : n₀ ≤ w.heap.size) (hwf : (Lit.int .i64 t.head).wf = true) (hA : IsArgs n₀ w t.args a c) :
    Calls Tryz.prog 103 #[tm t.head a t.args.length c] w fun e w' => e = .returned (.int .i64 (t.size : Nat)) ∧ Below w.heap.size w w' := by
  have HA := Lib.hid (hA.mono hn)
  clear hA hn n₀
  refine (callsIn_wide (n := 9)).1 ?_
  refine callsIn_of_wp_marks Tryz.func103 rfl trivial ?_ rfl
  simp only [Tryz.ntmps103, List.size_toArray, List.length_cons, List.length_nil, Nat.reduceAdd, Nat.reduceSub, Array.replicate_succ, Array.replicate_zero, List.push_toArray, List.append_toArray, List.nil_append, List.cons_append]
  gi_wp2_with (refine ⟨trivial, ?_⟩; gi_at_call 111; refine (callsIn_wide.2 (subterms_any _ _ _ _ _)).mono ?_; rintro e w' ⟨rfl, rfl⟩)
  have hB3 : Below w.heap.size w (((w.alloc (tmCells t.head a t.args.length c)).alloc (.cells #[.int .i64 0] 3)).alloc (tmCells t.head a t.args.length c)) := (((Below.refl _ w).alloc (Nat.le_refl _) _).alloc (by simp) _).alloc (by simp; omega) _
  have f1 : (((w.alloc (tmCells t.head a t.args.length c)).alloc (.cells #[.int .i64 0] 3)).alloc (tmCells t.head a t.args.length c)).cell? ⟨w.heap.size + 1, 0, none⟩ = some (.int .i64 0) := by simp [go_sem]
  have f2 : (((w.alloc (tmCells t.head a t.args.length c)).alloc (.cells #[.int .i64 0] 3)).alloc (tmCells t.head a t.args.length c)).frozen? ⟨w.heap.size + 1, 0, none⟩ = false := by simp [go_sem]
  have f3 : (((w.alloc (tmCells t.head a t.args.length c)).alloc (.cells #[.int .i64 0] 3)).alloc (tmCells t.head a t.args.length c)).cell? ⟨w.heap.size + 1 + 1, 0, none⟩ = some (.int .i64 t.head) := by simp [go_sem]
  have f4 : (((w.alloc (tmCells t.head a t.args.length c)).alloc (.cells #[.int .i64 0] 3)).alloc (tmCells t.head a t.args.length c)).cell? ⟨w.heap.size + 1 + 1, 1, none⟩ = some (.slice a t.args.length c) := by simp [go_sem]
  have hs : (((w.alloc (tmCells t.head a t.args.length c)).alloc (.cells #[.int .i64 0] 3)).alloc (tmCells t.head a t.args.length c)).heap.size = w.heap.size + 3 := by simp
  generalize (((w.alloc (tmCells t.head a t.args.length c)).alloc (.cells #[.int .i64 0] 3)).alloc (tmCells t.head a t.args.length c)) = W3 at *
  refine wpIn_rangeB rfl (by omega) (gf := 132) (lb := #[.pointer (some ⟨w.heap.size + 1 + 1, 0, none⟩)]) rfl trivial (enters_of Tryz.func132 (by kernel_rfl) rfl)
    (subterms_seq Fence.wide 8 trivial rfl (by omega) t ht (w.heap.size + 1 + 1) w.heap.size a c W3 (by omega) (by omega) hwf f3 f4 (HA.out.below hB3)) (Below.refl _ _) (by omega) (fun _ _ _ _ h => h.size) (fun _ _ _ _ _ h hb => h.below hb)
    (fun pre W => W.cell? ⟨w.heap.size + 1, 0, none⟩ = some (.int .i64 (pre.length : Nat)) ∧ W.frozen? ⟨w.heap.size + 1, 0, none⟩ = false ∧ Below w.heap.size w W)
    (fun _ _ _ => False)
    (fun pre X Y h hb => ⟨(hb.cell (p := ⟨w.heap.size + 1, 0, none⟩) (by simp; omega)).trans h.1, (hb.frozen (p := ⟨w.heap.size + 1, 0, none⟩) (by simp; omega)).trans h.2.1, h.2.2.trans (hb.mono (by omega))⟩)
    (fun _ _ _ _ h _ => h)
    ⟨f1, f2, hB3⟩
    (fun _ _ a' _ => ∃ u v, a' = { tmps := #[tm t.head a t.args.length c, Value.pointer (some ⟨w.heap.size, 0, none⟩), Value.int IntKind.i64 0, Value.pointer (some ⟨w.heap.size + 1, 0, none⟩), Value.agg #[Value.int IntKind.i64 t.head, Value.slice a t.args.length c], Value.func (Fn.func 132) #[] #[Value.pointer (some ⟨w.heap.size + 1 + 1, 0, none⟩)], u, v, undef, undef, undef], defers := [] })
    (fun _ _ _ _ _ _ _ _ _ _ h => h) ?assign ?body ?done ?stop
  case assign =>
    rintro l pre x vs W K hsz hi ⟨_, _, a1, c1, rfl, _⟩ hK
    gi_wp2
    exact hK _ _ (Kept.refl _ _ _) hi ⟨.int .i64 x.1, tm x.2.head a1 x.2.args.length c1, by simp⟩
  case body =>
    rintro l pre x vs a' W hsz ⟨hc, hf, hb⟩ hm ⟨u, v, rfl⟩
    have hlen : pre.length < t.size := hm.length
    clear hm
    gi_wp2
    refine ⟨(Kept.refl _ _ _).setCell (p := ⟨w.heap.size + 1, 0, none⟩) (by simp) (.inl (by simp; omega)) _, ?_, ?_, hb.setCell (p := ⟨w.heap.size + 1, 0, none⟩) (by simp) _⟩
    · rw [World.cell?_setCell_same' _ _ _ (by rw [hc]; rfl)]; simp
    · rw [World.frozen?_setCell]; exact hf
  case done =>
    rintro D xs W hD rfl ⟨hc, hf, hb⟩ hK
    gi_wp2
    refine ⟨by simp, .inl ⟨_, _, rfl, run_takeDeferred hK, ?_⟩⟩
    refine ⟨_, results_tmp rfl _ _ _, by rw [T.subs_length]; rfl, hb.trans (below_putObj _ hK (by omega))⟩
  case stop =>
    rintro D c pre W _ _ h _
    exact h.elim
end Go.Proofs.YtpncmdlbmnmahaaGreat
