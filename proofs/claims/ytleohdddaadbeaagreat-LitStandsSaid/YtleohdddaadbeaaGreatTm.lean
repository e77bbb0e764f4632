/- Terms as trees, and what it means that a term lies in memory: plain definitions and lemmas; no program is named here. -/
import Derived.RangeFuncNested
import Derived.Deep.LoopGhost
import Derived.WalkKit
import Derived.Lib.Hide
namespace Go.Proofs.YtleohdddaadbeaaGreat
set_option linter.unusedVariables false
set_option linter.unusedSimpArgs false
open Go.RowKit

inductive T where
  | node : Int → List T → T

def T.head : T → Int
  | .node h _ => h
def T.args : T → List T
  | .node _ ts => ts

mutual
def T.size : T → Nat
  | .node _ ts => 1 + T.sizes ts
def T.sizes : List T → Nat
  | [] => 0
  | t :: ts => t.size + T.sizes ts
end

mutual
def T.subs (l : Nat) : T → List (Nat × T)
  | .node h ts => (l, .node h ts) :: T.subss (l + 1) ts
def T.subss (l : Nat) : List T → List (Nat × T)
  | [] => []
  | t :: ts => T.subs l t ++ T.subss l ts
end

theorem T.eta (t : T) : T.node t.head t.args = t := by cases t; rfl
theorem T.size_eq (t : T) : t.size = 1 + T.sizes t.args := by cases t; simp [T.size, T.args]
theorem T.size_pos (t : T) : 0 < t.size := by rw [T.size_eq]; omega
theorem T.sizes_append (a b : List T) : T.sizes (a ++ b) = T.sizes a + T.sizes b := by
  induction a with
  | nil => simp [T.sizes]
  | cons t ts ih => simp [T.sizes, ih]; omega
theorem T.sizes_ge_length (a : List T) : a.length ≤ T.sizes a := by
  induction a with
  | nil => simp
  | cons t ts ih => simp [T.sizes]; have := T.size_pos t; omega
theorem T.sizes_drop {ts : List T} {i : Nat} {t : T} (h : ts[i]? = some t) : T.sizes (ts.drop i) = t.size + T.sizes (ts.drop (i + 1)) := by
  obtain ⟨hi, e⟩ := List.getElem?_eq_some_iff.1 h
  rw [List.drop_eq_getElem_cons hi, e, T.sizes]
theorem T.sizes_take {ts : List T} {i : Nat} {t : T} (h : ts[i]? = some t) : T.sizes (ts.take (i + 1)) = T.sizes (ts.take i) + t.size := by
  obtain ⟨hi, e⟩ := List.getElem?_eq_some_iff.1 h
  rw [List.take_succ_eq_append_getElem hi, T.sizes_append, e]; simp [T.sizes]
theorem T.size_lt_of_mem {ts : List T} {i : Nat} {t : T} (h : ts[i]? = some t) : t.size ≤ T.sizes ts := by
  have h1 := T.sizes_append (ts.take i) (ts.drop i)
  rw [List.take_append_drop, T.sizes_drop h] at h1
  omega
theorem T.subs_eq (l : Nat) (t : T) : T.subs l t = (l, t) :: T.subss (l + 1) t.args := by cases t; simp [T.subs, T.args]
theorem T.subss_drop {ts : List T} {i : Nat} {t : T} (l : Nat) (h : ts[i]? = some t) : T.subss l (ts.drop i) = T.subs l t ++ T.subss l (ts.drop (i + 1)) := by
  obtain ⟨hi, e⟩ := List.getElem?_eq_some_iff.1 h
  rw [List.drop_eq_getElem_cons hi, e, T.subss]

mutual
theorem T.subs_length (l : Nat) : (t : T) → (T.subs l t).length = t.size
  | .node h ts => by simp [T.subs, T.size, T.subss_length (l + 1) ts]; omega
theorem T.subss_length (l : Nat) : (ts : List T) → (T.subss l ts).length = T.sizes ts
  | [] => by simp [T.subss, T.sizes]
  | t :: ts => by simp [T.subss, T.sizes, T.subs_length l t, T.subss_length l ts]
end

/-! ### A term in memory -/
mutual
def IsT (n₀ : Nat) (w : World) : T → Nat → Nat → Prop
  | .node h ts, b, o => (Lit.int .i64 h).wf = true ∧ w.cell? ⟨b, o, none⟩ = some (.int .i64 h) ∧ ∃ a c, w.cell? ⟨b, o + 1, none⟩ = some (.slice a ts.length c) ∧ ts.length ≤ c ∧ c ≤ maxLen ∧
      (ts = [] ∨ ∃ b' o', a = some ⟨b', o', none⟩ ∧ b' < n₀ ∧ IsRow n₀ w ts b' o')
def IsRow (n₀ : Nat) (w : World) : List T → Nat → Nat → Prop
  | [], _, _ => True
  | t :: ts, b, o => IsT n₀ w t b o ∧ IsRow n₀ w ts b (o + 2)
end

/-- The slice value '.slice a n c' holds the terms ts (n of them), their blocks below n₀. -/
def IsArgs (n₀ : Nat) (w : World) (ts : List T) (a : Option Addr) (c : Nat) : Prop :=
  ts.length ≤ c ∧ c ≤ maxLen ∧ (ts = [] ∨ ∃ b o, a = some ⟨b, o, none⟩ ∧ b < n₀ ∧ IsRow n₀ w ts b o)

theorem isT_iff {n₀ : Nat} {w : World} {t : T} {b o : Nat} : IsT n₀ w t b o ↔ (Lit.int .i64 t.head).wf = true ∧ w.cell? ⟨b, o, none⟩ = some (.int .i64 t.head) ∧ ∃ a c, w.cell? ⟨b, o + 1, none⟩ = some (.slice a t.args.length c) ∧ IsArgs n₀ w t.args a c := by
  cases t; simp [IsT, T.head, T.args, IsArgs]

theorem IsRow.at {n₀ : Nat} {w : World} {ts : List T} {b o : Nat} (h : IsRow n₀ w ts b o) {i : Nat} {t : T} (hi : ts[i]? = some t) : IsT n₀ w t b (o + i * 2) := by
  induction ts generalizing o i with
  | nil => simp at hi
  | cons s ts ih =>
    simp only [IsRow] at h
    cases i with
    | zero => simp at hi; subst hi; exact h.1
    | succ i =>
      have := ih h.2 (i := i) (by simpa using hi)
      rw [show o + (i + 1) * 2 = o + 2 + i * 2 from by omega]; exact this

theorem IsRow.drop {n₀ : Nat} {w : World} {ts : List T} {b o : Nat} (h : IsRow n₀ w ts b o) (i : Nat) (hi : i ≤ ts.length) : IsRow n₀ w (ts.drop i) b (o + i * 2) := by
  induction ts generalizing o i with
  | nil => simp [IsRow]
  | cons s ts ih =>
    cases i with
    | zero => simpa using h
    | succ i =>
      simp only [IsRow] at h
      have := ih h.2 i (by simpa using hi)
      rw [List.drop_succ_cons, show o + (i + 1) * 2 = o + 2 + i * 2 from by omega]; exact this

/- What a change of the world must keep that terms stay: the cells of blocks below n₀, and of the rows own block. -/
mutual
theorem IsT.keep {n₀ : Nat} {w w' : World} (h : ∀ b o, b < n₀ → w.cell? ⟨b, o, none⟩ ≠ none → w'.cell? ⟨b, o, none⟩ = w.cell? ⟨b, o, none⟩) :
    (t : T) → ∀ {b o : Nat}, (∀ o, w.cell? ⟨b, o, none⟩ ≠ none → w'.cell? ⟨b, o, none⟩ = w.cell? ⟨b, o, none⟩) → IsT n₀ w t b o → IsT n₀ w' t b o
  | .node x ts, b, o, hb, ht => by
    simp only [IsT] at ht ⊢
    obtain ⟨h0, h1, a, c, h2, h3, h4, h5⟩ := ht
    refine ⟨h0, (hb o (by rw [h1]; simp)).trans h1, a, c, (hb (o + 1) (by rw [h2]; simp)).trans h2, h3, h4, ?_⟩
    rcases h5 with h5 | ⟨b', o', h5, h6, h7⟩
    · exact .inl h5
    · exact .inr ⟨b', o', h5, h6, IsRow.keep h ts (fun o => h b' o h6) h7⟩
theorem IsRow.keep {n₀ : Nat} {w w' : World} (h : ∀ b o, b < n₀ → w.cell? ⟨b, o, none⟩ ≠ none → w'.cell? ⟨b, o, none⟩ = w.cell? ⟨b, o, none⟩) :
    (ts : List T) → ∀ {b o : Nat}, (∀ o, w.cell? ⟨b, o, none⟩ ≠ none → w'.cell? ⟨b, o, none⟩ = w.cell? ⟨b, o, none⟩) → IsRow n₀ w ts b o → IsRow n₀ w' ts b o
  | [], b, o, hb, ht => by simp [IsRow]
  | t :: ts, b, o, hb, ht => by
    simp only [IsRow] at ht ⊢
    exact ⟨IsT.keep h t hb ht.1, IsRow.keep h ts hb ht.2⟩
end

mutual
theorem IsT.mono {n₀ n₁ : Nat} {w : World} (h : n₀ ≤ n₁) : (t : T) → ∀ {b o : Nat}, IsT n₀ w t b o → IsT n₁ w t b o
  | .node x ts, b, o, ht => by
    simp only [IsT] at ht ⊢
    obtain ⟨h0, h1, a, c, h2, h3, h4, h5⟩ := ht
    refine ⟨h0, h1, a, c, h2, h3, h4, ?_⟩
    rcases h5 with h5 | ⟨b', o', h5, h6, h7⟩
    · exact .inl h5
    · exact .inr ⟨b', o', h5, by omega, IsRow.mono h ts h7⟩
theorem IsRow.mono {n₀ n₁ : Nat} {w : World} (h : n₀ ≤ n₁) : (ts : List T) → ∀ {b o : Nat}, IsRow n₀ w ts b o → IsRow n₁ w ts b o
  | [], b, o, ht => by simp [IsRow]
  | t :: ts, b, o, ht => by
    simp only [IsRow] at ht ⊢
    exact ⟨IsT.mono h t ht.1, IsRow.mono h ts ht.2⟩
end

theorem IsRow.below {n₀ : Nat} {w w' : World} {ts : List T} {b o : Nat} (ht : IsRow n₀ w ts b o) (h : Below n₀ w w') (hb : b < n₀) : IsRow n₀ w' ts b o :=
  IsRow.keep (fun b o hb _ => h.cell (p := ⟨b, o, none⟩) hb) ts (fun o _ => h.cell (p := ⟨b, o, none⟩) hb) ht
theorem IsT.below {n₀ : Nat} {w w' : World} {t : T} {b o : Nat} (ht : IsT n₀ w t b o) (h : Below n₀ w w') (hb : b < n₀) : IsT n₀ w' t b o :=
  IsT.keep (fun b o hb _ => h.cell (p := ⟨b, o, none⟩) hb) t (fun o _ => h.cell (p := ⟨b, o, none⟩) hb) ht
theorem IsArgs.below {n₀ : Nat} {w w' : World} {ts : List T} {a : Option Addr} {c : Nat} (ht : IsArgs n₀ w ts a c) (h : Below n₀ w w') : IsArgs n₀ w' ts a c := by
  obtain ⟨h1, h2, h3⟩ := ht
  refine ⟨h1, h2, ?_⟩
  rcases h3 with h3 | ⟨b, o, h3, h4, h5⟩
  · exact .inl h3
  · exact .inr ⟨b, o, h3, h4, h5.below h h4⟩
theorem IsArgs.mono {n₀ n₁ : Nat} {w : World} {ts : List T} {a : Option Addr} {c : Nat} (ht : IsArgs n₀ w ts a c) (h : n₀ ≤ n₁) : IsArgs n₁ w ts a c := by
  obtain ⟨h1, h2, h3⟩ := ht
  refine ⟨h1, h2, ?_⟩
  rcases h3 with h3 | ⟨b, o, h3, h4, h5⟩
  · exact .inl h3
  · exact .inr ⟨b, o, h3, by omega, h5.mono h⟩

/-- The element i of a slice of terms: its two cells, and what its own arguments are. -/
theorem IsArgs.elem {n₀ : Nat} {w : World} {ts : List T} {a : Option Addr} {c : Nat} (h : IsArgs n₀ w ts a c) {i : Nat} (hi : i < ts.length) :
    ∃ (b o : Nat) (t : T) (a' : Option Addr) (c' : Nat), a = some ⟨b, o, none⟩ ∧ b < n₀ ∧ ts[i]? = some t ∧ (Lit.int .i64 t.head).wf = true ∧ w.cell? ⟨b, o + i * 2, none⟩ = some (.int .i64 t.head) ∧
      w.cell? ⟨b, o + i * 2 + 1, none⟩ = some (.slice a' t.args.length c') ∧ IsArgs n₀ w t.args a' c' := by
  obtain ⟨_, _, h3⟩ := h
  rcases h3 with rfl | ⟨b, o, rfl, h4, h5⟩
  · simp at hi
  · have ht := h5.at (List.getElem?_eq_getElem hi)
    obtain ⟨p0, p1, a', c', p2, p3⟩ := isT_iff.1 ht
    exact ⟨b, o, _, a', c', rfl, h4, List.getElem?_eq_getElem hi, p0, p1, p2, p3⟩

/-- For an arm of a walk that is to stop at an operation. -/
theorem stopHere {p : Prop} (h : Hid p) : p := h

/-- The least number trick for a loop inside a fence whose measure stands in no slot. -/
theorem leastOf_lt {p q : Nat → Prop} {k : Nat} (hq : q k) (hk : k < leastOf p) : leastOf q < leastOf p :=
  Nat.lt_of_le_of_lt ((leastOf_spec ⟨k, hq⟩).2 k hq) hk

end Go.Proofs.YtleohdddaadbeaaGreat
