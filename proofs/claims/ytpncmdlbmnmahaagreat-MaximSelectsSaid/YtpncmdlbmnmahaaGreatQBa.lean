/- QBa: joined of Tm, Tp. -/
import Derived.RangeFuncNested
import Derived.Deep.LoopGhost
import Derived.WalkKit
import Derived.Lib.Hide
/- Terms as trees, and what it means that a term lies in memory: plain definitions and lemmas; no program is named here. -/
namespace Go.Proofs.YtpncmdlbmnmahaaGreat
set_option linter.unusedVariables false
set_option linter.unusedSimpArgs false
open Go.RowKit
inductive T where
  | node : Int → List T → T
def T.head : T → Int
  | .node h _ => h
def T.args : T → List T
  | .node _ ts => ts
mutual
def T.size : T → Nat
  | .node _ ts => 1 + T.sizes ts
def T.sizes : List T → Nat
  | [] => 0
  | t :: ts => t.size + T.sizes ts
end
mutual
def T.subs (l : Nat) : T → List (Nat × T)
  | .node h ts => (l, .node h ts) :: T.subss (l + 1) ts
def T.subss (l : Nat) : List T → List (Nat × T)
  | [] => []
  | t :: ts => T.subs l t ++ T.subss l ts
end
theorem T.eta (t : T) : T.node t.head t.args = t := by cases t; rfl
theorem T.size_eq (t : T) : t.size = 1 + T.sizes t.args := by cases t; simp [T.size, T.args]
theorem T.size_pos (t : T) : 0 < t.size := by rw [T.size_eq]; omega
theorem T.sizes_append (a b : List T) : T.sizes (a ++ b) = T.sizes a + T.sizes b := by
  induction a with
  | nil => simp [T.sizes]
  | cons t ts ih => simp [T.sizes, ih]; omega
theorem T.sizes_ge_length (a : List T) : a.length ≤ T.sizes a := by
  induction a with
  | nil => simp
  | cons t ts ih => simp [T.sizes]; have := T.size_pos t; omega
theorem T.sizes_drop {ts : List T} {i : Nat} {t : T} (h : ts[i]? = some t) : T.sizes (ts.drop i) = t.size + T.sizes (ts.drop (i + 1)) := by
  obtain ⟨hi, e⟩ := List.getElem?_eq_some_iff.1 h
  rw [List.drop_eq_getElem_cons hi, e, T.sizes]
theorem T.sizes_take {ts : List T} {i : Nat} {t : T} (h : ts[i]? = some t) : T.sizes (ts.take (i + 1)) = T.sizes (ts.take i) + t.size := by
  obtain ⟨hi, e⟩ := List.getElem?_eq_some_iff.1 h
  rw [List.take_succ_eq_append_getElem hi, T.sizes_append, e]; simp [T.sizes]
theorem T.size_lt_of_mem {ts : List T} {i : Nat} {t : T} (h : ts[i]? = some t) : t.size ≤ T.sizes ts := by
  have h1 := T.sizes_append (ts.take i) (ts.drop i)
  rw [List.take_append_drop, T.sizes_drop h] at h1
  omega
theorem T.subs_eq (l : Nat) (t : T) : T.subs l t = (l, t) :: T.subss (l + 1) t.args := by cases t; simp [T.subs, T.args]
theorem T.subss_drop {ts : List T} {i : Nat} {t : T} (l : Nat) (h : ts[i]? = some t) : T.subss l (ts.drop i) = T.subs l t ++ T.subss l (ts.drop (i + 1)) := by
  obtain ⟨hi, e⟩ := List.getElem?_eq_some_iff.1 h
  rw [List.drop_eq_getElem_cons hi, e, T.subss]
mutual
theorem T.subs_length (l : Nat) : (t : T) → (T.subs l t).length = t.size
  | .node h ts => by simp [T.subs, T.size, T.subss_length (l + 1) ts]; omega
theorem T.subss_length (l : Nat) : (ts : List T) → (T.subss l ts).length = T.sizes ts
  | [] => by simp [T.subss, T.sizes]
  | t :: ts => by simp [T.subss, T.sizes, T.subs_length l t, T.subss_length l ts]
end
/-! ### A term in memory -/
mutual
def IsT (n₀ : Nat) (w : World) : T → Nat → Nat → Prop
  | .node h ts, b, o => (Lit.int .i64 h).wf = true ∧ w.cell? ⟨b, o, none⟩ = some (.int .i64 h) ∧ ∃ a c, w.cell? ⟨b, o + 1, none⟩ = some (.slice a ts.length c) ∧ ts.length ≤ c ∧ c ≤ maxLen ∧
      (ts = [] ∨ ∃ b' o', a = some ⟨b', o', none⟩ ∧ b' < n₀ ∧ IsRow n₀ w ts b' o')
def IsRow (n₀ : Nat) (w : World) : List T → Nat → Nat → Prop
  | [], _, _ => True
  | t :: ts, b, o => IsT n₀ w t b o ∧ IsRow n₀ w ts b (o + 2)
end
/-- The slice value '.slice a n c' holds the terms ts (n of them), their blocks below n₀. -/
def IsArgs (n₀ : Nat) (w : World) (ts : List T) (a : Option Addr) (c : Nat) : Prop :=
  ts.length ≤ c ∧ c ≤ maxLen ∧ (ts = [] ∨ ∃ b o, a = some ⟨b, o, none⟩ ∧ b < n₀ ∧ IsRow n₀ w ts b o)
theorem isT_iff {n₀ : Nat} {w : World} {t : T} {b o : Nat} : IsT n₀ w t b o ↔ (Lit.int .i64 t.head).wf = true ∧ w.cell? ⟨b, o, none⟩ = some (.int .i64 t.head) ∧ ∃ a c, w.cell? ⟨b, o + 1, none⟩ = some (.slice a t.args.length c) ∧ IsArgs n₀ w t.args a c := by
  cases t; simp [IsT, T.head, T.args, IsArgs]
theorem IsRow.at {n₀ : Nat} {w : World} {ts : List T} {b o : Nat} (h : IsRow n₀ w ts b o) {i : Nat} {t : T} (hi : ts[i]? = some t) : IsT n₀ w t b (o + i * 2) := by
  induction ts generalizing o i with
  | nil => simp at hi
  | cons s ts ih =>
    simp only [IsRow] at h
    cases i with
    | zero => simp at hi; subst hi; exact h.1
    | succ i =>
      have := ih h.2 (i := i) (by simpa using hi)
      rw [show o + (i + 1) * 2 = o + 2 + i * 2 from by omega]; exact this
theorem IsRow.drop {n₀ : Nat} {w : World} {ts : List T} {b o : Nat} (h : IsRow n₀ w ts b o) (i : Nat) (hi : i ≤ ts.length) : IsRow n₀ w (ts.drop i) b (o + i * 2) := by
  induction ts generalizing o i with
  | nil => simp [IsRow]
  | cons s ts ih =>
    cases i with
    | zero => simpa using h
    | succ i =>
      simp only [IsRow] at h
      have := ih h.2 i (by simpa using hi)
      rw [List.drop_succ_cons, show o + (i + 1) * 2 = o + 2 + i * 2 from by omega]; exact this
/- What a change of the world must keep that terms stay: the cells of blocks below n₀, and of the rows own block. -/
mutual
theorem IsT.keep {n₀ : Nat} {w w' : World} (h : ∀ b o, b < n₀ → w.cell? ⟨b, o, none⟩ ≠ none → w'.cell? ⟨b, o, none⟩ = w.cell? ⟨b, o, none⟩) :
    (t : T) → ∀ {b o : Nat}, (∀ o, w.cell? ⟨b, o, none⟩ ≠ none → w'.cell? ⟨b, o, none⟩ = w.cell? ⟨b, o, none⟩) → IsT n₀ w t b o → IsT n₀ w' t b o
  | .node x ts, b, o, hb, ht => by
    simp only [IsT] at ht ⊢
    obtain ⟨h0, h1, a, c, h2, h3, h4, h5⟩ := ht
    refine ⟨h0, (hb o (by rw [h1]; simp)).trans h1, a, c, (hb (o + 1) (by rw [h2]; simp)).trans h2, h3, h4, ?_⟩
    rcases h5 with h5 | ⟨b', o', h5, h6, h7⟩
    · exact .inl h5
    · exact .inr ⟨b', o', h5, h6, IsRow.keep h ts (fun o => h b' o h6) h7⟩
theorem IsRow.keep {n₀ : Nat} {w w' : World} (h : ∀ b o, b < n₀ → w.cell? ⟨b, o, none⟩ ≠ none → w'.cell? ⟨b, o, none⟩ = w.cell? ⟨b, o, none⟩) :
    (ts : List T) → ∀ {b o : Nat}, (∀ o, w.cell? ⟨b, o, none⟩ ≠ none → w'.cell? ⟨b, o, none⟩ = w.cell? ⟨b, o, none⟩) → IsRow n₀ w ts b o → IsRow n₀ w' ts b o
  | [], b, o, hb, ht => by simp [IsRow]
  | t :: ts, b, o, hb, ht => by
    simp only [IsRow] at ht ⊢
    exact ⟨IsT.keep h t hb ht.1, IsRow.keep h ts hb ht.2⟩
end
mutual
theorem IsT.mono {n₀ n₁ : Nat} {w : World} (h : n₀ ≤ n₁) : (t : T) → ∀ {b o : Nat}, IsT n₀ w t b o → IsT n₁ w t b o
  | .node x ts, b, o, ht => by
    simp only [IsT] at ht ⊢
    obtain ⟨h0, h1, a, c, h2, h3, h4, h5⟩ := ht
    refine ⟨h0, h1, a, c, h2, h3, h4, ?_⟩
    rcases h5 with h5 | ⟨b', o', h5, h6, h7⟩
    · exact .inl h5
    · exact .inr ⟨b', o', h5, by omega, IsRow.mono h ts h7⟩
theorem IsRow.mono {n₀ n₁ : Nat} {w : World} (h : n₀ ≤ n₁) : (ts : List T) → ∀ {b o : Nat}, IsRow n₀ w ts b o → IsRow n₁ w ts b o
  | [], b, o, ht => by simp [IsRow]
  | t :: ts, b, o, ht => by
    simp only [IsRow] at ht ⊢
    exact ⟨IsT.mono h t ht.1, IsRow.mono h ts ht.2⟩
end
theorem IsRow.below {n₀ : Nat} {w w' : World} {ts : List T} {b o : Nat} (ht : IsRow n₀ w ts b o) (h : Below n₀ w w') (hb : b < n₀) : IsRow n₀ w' ts b o :=
  IsRow.keep (fun b o hb _ => h.cell (p := ⟨b, o, none⟩) hb) ts (fun o _ => h.cell (p := ⟨b, o, none⟩) hb) ht
theorem IsT.below {n₀ : Nat} {w w' : World} {t : T} {b o : Nat} (ht : IsT n₀ w t b o) (h : Below n₀ w w') (hb : b < n₀) : IsT n₀ w' t b o :=
  IsT.keep (fun b o hb _ => h.cell (p := ⟨b, o, none⟩) hb) t (fun o _ => h.cell (p := ⟨b, o, none⟩) hb) ht
theorem IsArgs.below {n₀ : Nat} {w w' : World} {ts : List T} {a : Option Addr} {c : Nat} (ht : IsArgs n₀ w ts a c) (h : Below n₀ w w') : IsArgs n₀ w' ts a c := by
  obtain ⟨h1, h2, h3⟩ := ht
  refine ⟨h1, h2, ?_⟩
  rcases h3 with h3 | ⟨b, o, h3, h4, h5⟩
  · exact .inl h3
  · exact .inr ⟨b, o, h3, h4, h5.below h h4⟩
theorem IsArgs.mono {n₀ n₁ : Nat} {w : World} {ts : List T} {a : Option Addr} {c : Nat} (ht : IsArgs n₀ w ts a c) (h : n₀ ≤ n₁) : IsArgs n₁ w ts a c := by
  obtain ⟨h1, h2, h3⟩ := ht
  refine ⟨h1, h2, ?_⟩
  rcases h3 with h3 | ⟨b, o, h3, h4, h5⟩
  · exact .inl h3
  · exact .inr ⟨b, o, h3, by omega, h5.mono h⟩
/-- The element i of a slice of terms: its two cells, and what its own arguments are. -/
theorem IsArgs.elem {n₀ : Nat} {w : World} {ts : List T} {a : Option Addr} {c : Nat} (h : IsArgs n₀ w ts a c) {i : Nat} (hi : i < ts.length) :
    ∃ (b o : Nat) (t : T) (a' : Option Addr) (c' : Nat), a = some ⟨b, o, none⟩ ∧ b < n₀ ∧ ts[i]? = some t ∧ (Lit.int .i64 t.head).wf = true ∧ w.cell? ⟨b, o + i * 2, none⟩ = some (.int .i64 t.head) ∧
      w.cell? ⟨b, o + i * 2 + 1, none⟩ = some (.slice a' t.args.length c') ∧ IsArgs n₀ w t.args a' c' := by
  obtain ⟨_, _, h3⟩ := h
  rcases h3 with rfl | ⟨b, o, rfl, h4, h5⟩
  · simp at hi
  · have ht := h5.at (List.getElem?_eq_getElem hi)
    obtain ⟨p0, p1, a', c', p2, p3⟩ := isT_iff.1 ht
    exact ⟨b, o, _, a', c', rfl, h4, List.getElem?_eq_getElem hi, p0, p1, p2, p3⟩
/-- For an arm of a walk that is to stop at an operation. -/
theorem stopHere {p : Prop} (h : Hid p) : p := h
/-- The least number trick for a loop inside a fence whose measure stands in no slot. -/
theorem leastOf_lt {p q : Nat → Prop} {k : Nat} (hq : q k) (hk : k < leastOf p) : leastOf q < leastOf p :=
  Nat.lt_of_le_of_lt ((leastOf_spec ⟨k, hq⟩).2 k hq) hk
end Go.Proofs.YtpncmdlbmnmahaaGreat

/- Tp: joined of Tp, Pos. -/
/- Terms in memory whose blocks meet a condition: plain definitions and lemmas; no program is named here. -/
namespace Go.Proofs.YtpncmdlbmnmahaaGreat
set_option linter.unusedVariables false
set_option linter.unusedSimpArgs false
open Go.RowKit
mutual
def IsTp (ok : Nat → Prop) (w : World) : T → Nat → Nat → Prop
  | .node h ts, b, o => (Lit.int .i64 h).wf = true ∧ w.cell? ⟨b, o, none⟩ = some (.int .i64 h) ∧ ∃ a c, w.cell? ⟨b, o + 1, none⟩ = some (.slice a ts.length c) ∧ ts.length ≤ c ∧ c ≤ maxLen ∧
      (ts = [] ∨ ∃ b' o', a = some ⟨b', o', none⟩ ∧ ok b' ∧ IsRowp ok w ts b' o')
def IsRowp (ok : Nat → Prop) (w : World) : List T → Nat → Nat → Prop
  | [], _, _ => True
  | t :: ts, b, o => IsTp ok w t b o ∧ IsRowp ok w ts b (o + 2)
end
def IsArgsp (ok : Nat → Prop) (w : World) (ts : List T) (a : Option Addr) (c : Nat) : Prop :=
  ts.length ≤ c ∧ c ≤ maxLen ∧ (ts = [] ∨ ∃ b o, a = some ⟨b, o, none⟩ ∧ ok b ∧ IsRowp ok w ts b o)
theorem isTp_iff {ok : Nat → Prop} {w : World} {t : T} {b o : Nat} : IsTp ok w t b o ↔ (Lit.int .i64 t.head).wf = true ∧ w.cell? ⟨b, o, none⟩ = some (.int .i64 t.head) ∧ ∃ a c, w.cell? ⟨b, o + 1, none⟩ = some (.slice a t.args.length c) ∧ IsArgsp ok w t.args a c := by
  cases t; simp [IsTp, T.head, T.args, IsArgsp]
mutual
theorem IsTp.keep {ok ok' : Nat → Prop} {w w' : World} (h : ∀ b, ok b → w'.heap[b]? = w.heap[b]?) (hm : ∀ b, ok b → ok' b) : (t : T) → ∀ {b o : Nat}, w'.heap[b]? = w.heap[b]? → IsTp ok w t b o → IsTp ok' w' t b o
  | .node x ts, b, o, hb, ht => by
    simp only [IsTp] at ht ⊢
    obtain ⟨h0, h1, a, c, h2, h3, h4, h5⟩ := ht
    refine ⟨h0, (World.cell?_of_block (a := ⟨b, o, none⟩) hb).trans h1, a, c, (World.cell?_of_block (a := ⟨b, o + 1, none⟩) hb).trans h2, h3, h4, ?_⟩
    rcases h5 with h5 | ⟨b', o', h5, h6, h7⟩
    · exact .inl h5
    · exact .inr ⟨b', o', h5, hm _ h6, IsRowp.keep h hm ts (h b' h6) h7⟩
theorem IsRowp.keep {ok ok' : Nat → Prop} {w w' : World} (h : ∀ b, ok b → w'.heap[b]? = w.heap[b]?) (hm : ∀ b, ok b → ok' b) : (ts : List T) → ∀ {b o : Nat}, w'.heap[b]? = w.heap[b]? → IsRowp ok w ts b o → IsRowp ok' w' ts b o
  | [], b, o, hb, ht => by simp [IsRowp]
  | t :: ts, b, o, hb, ht => by
    simp only [IsRowp] at ht ⊢
    exact ⟨IsTp.keep h hm t hb ht.1, IsRowp.keep h hm ts hb ht.2⟩
end
theorem IsArgsp.keep {ok ok' : Nat → Prop} {w w' : World} {ts : List T} {a : Option Addr} {c : Nat} (ht : IsArgsp ok w ts a c) (h : ∀ b, ok b → w'.heap[b]? = w.heap[b]?) (hm : ∀ b, ok b → ok' b) : IsArgsp ok' w' ts a c := by
  obtain ⟨h1, h2, h3⟩ := ht
  refine ⟨h1, h2, ?_⟩
  rcases h3 with h3 | ⟨b, o, h3, h4, h5⟩
  · exact .inl h3
  · exact .inr ⟨b, o, h3, hm _ h4, IsRowp.keep h hm ts (h b h4) h5⟩
theorem IsArgsp.mono {ok ok' : Nat → Prop} {w : World} {ts : List T} {a : Option Addr} {c : Nat} (ht : IsArgsp ok w ts a c) (hm : ∀ b, ok b → ok' b) : IsArgsp ok' w ts a c := ht.keep (fun _ _ => rfl) hm
mutual
theorem isTp_lt {n₀ : Nat} {w : World} : (t : T) → ∀ {b o : Nat}, IsTp (· < n₀) w t b o ↔ IsT n₀ w t b o
  | .node x ts, b, o => by
    simp only [IsTp, IsT]
    constructor
    · rintro ⟨h0, h1, a, c, h2, h3, h4, h5⟩
      exact ⟨h0, h1, a, c, h2, h3, h4, h5.imp id fun ⟨b', o', h6, h7, h8⟩ => ⟨b', o', h6, h7, (isRowp_lt ts).1 h8⟩⟩
    · rintro ⟨h0, h1, a, c, h2, h3, h4, h5⟩
      exact ⟨h0, h1, a, c, h2, h3, h4, h5.imp id fun ⟨b', o', h6, h7, h8⟩ => ⟨b', o', h6, h7, (isRowp_lt ts).2 h8⟩⟩
theorem isRowp_lt {n₀ : Nat} {w : World} : (ts : List T) → ∀ {b o : Nat}, IsRowp (· < n₀) w ts b o ↔ IsRow n₀ w ts b o
  | [], b, o => by simp [IsRowp, IsRow]
  | t :: ts, b, o => by simp only [IsRowp, IsRow]; rw [isTp_lt t, isRowp_lt ts]
end
theorem isArgsp_lt {n₀ : Nat} {w : World} {ts : List T} {a : Option Addr} {c : Nat} : IsArgsp (· < n₀) w ts a c ↔ IsArgs n₀ w ts a c := by
  unfold IsArgsp IsArgs
  constructor
  · rintro ⟨h1, h2, h3⟩
    exact ⟨h1, h2, h3.imp id fun ⟨b', o', h6, h7, h8⟩ => ⟨b', o', h6, h7, (isRowp_lt ts).1 h8⟩⟩
  · rintro ⟨h1, h2, h3⟩
    exact ⟨h1, h2, h3.imp id fun ⟨b', o', h6, h7, h8⟩ => ⟨b', o', h6, h7, (isRowp_lt ts).2 h8⟩⟩
theorem IsArgsp.toArgs {ok : Nat → Prop} {w : World} {ts : List T} {a : Option Addr} {c n : Nat} (h : IsArgsp ok w ts a c) (hm : ∀ b, ok b → b < n) : IsArgs n w ts a c := isArgsp_lt.1 (h.mono hm)
/-- The cells xs are those of the terms ts, one behind the other. -/
def RowVals (ok : Nat → Prop) (w : World) : List T → List Value → Prop
  | [], [] => True
  | t :: ts, h :: s :: xs => (Lit.int .i64 t.head).wf = true ∧ h = .int .i64 t.head ∧ (∃ a c, s = .slice a t.args.length c ∧ IsArgsp ok w t.args a c) ∧ RowVals ok w ts xs
  | _, _ => False
theorem RowVals.keep {ok ok' : Nat → Prop} {w w' : World} (h : ∀ b, ok b → w'.heap[b]? = w.heap[b]?) (hm : ∀ b, ok b → ok' b) : ∀ {ts : List T} {xs : List Value}, RowVals ok w ts xs → RowVals ok' w' ts xs
  | [], [], _ => trivial
  | t :: ts, x :: s :: xs, ⟨h1, h2, ⟨a, c, h3, h4⟩, h5⟩ => ⟨h1, h2, ⟨a, c, h3, h4.keep h hm⟩, RowVals.keep h hm h5⟩
  | [], _ :: _, h => h.elim
  | _ :: _, [], h => h.elim
  | _ :: _, [_], h => h.elim
theorem RowVals.snoc {ok : Nat → Prop} {w : World} {t : T} {a : Option Addr} {c : Nat} (h1 : (Lit.int .i64 t.head).wf = true) (h4 : IsArgsp ok w t.args a c) : ∀ {ts : List T} {xs : List Value}, RowVals ok w ts xs → RowVals ok w (ts ++ [t]) (xs ++ [.int .i64 t.head, .slice a t.args.length c])
  | [], [], _ => ⟨h1, rfl, ⟨a, c, rfl, h4⟩, trivial⟩
  | _ :: _, _ :: _ :: _, ⟨p1, p2, p3, p4⟩ => ⟨p1, p2, p3, RowVals.snoc h1 h4 p4⟩
  | [], _ :: _, h => h.elim
  | _ :: _, [], h => h.elim
  | _ :: _, [_], h => h.elim
theorem RowVals.isRowp {ok : Nat → Prop} {w : World} {g : Nat} : ∀ {ts : List T} {xs : List Value} {q : Nat}, RowVals ok w ts xs → (∀ j u, xs[j]? = some u → w.cell? ⟨g, q + j, none⟩ = some u) → IsRowp ok w ts g q
  | [], [], _, _, _ => trivial
  | t :: ts, x :: s :: xs, q, ⟨h1, h2, ⟨a, c, h3, h4⟩, h5⟩, hc => by
    subst h2 h3
    simp only [IsRowp]
    refine ⟨isTp_iff.2 ⟨h1, by simpa using hc 0 _ rfl, a, c, hc 1 _ rfl, h4⟩, RowVals.isRowp h5 (fun j u hj => ?_)⟩
    rw [show q + 2 + j = q + (j + 2) from by omega]
    exact hc (j + 2) u (by simpa using hj)
  | [], _ :: _, _, h, _ => h.elim
  | _ :: _, [], _, h, _ => h.elim
  | _ :: _, [_], _, h, _ => h.elim
theorem RowVals.length {ok : Nat → Prop} {w : World} : ∀ {ts : List T} {xs : List Value}, RowVals ok w ts xs → xs.length = ts.length * 2
  | [], [], _ => rfl
  | _ :: _, _ :: _ :: _, ⟨_, _, _, p4⟩ => by simp [p4.length]; omega
  | [], _ :: _, h => h.elim
  | _ :: _, [], h => h.elim
  | _ :: _, [_], h => h.elim
theorem rowVals_of {ok : Nat → Prop} {w : World} {b : Nat} : ∀ (ts : List T) (o : Nat), IsRowp ok w ts b o → ∃ xs, RowVals ok w ts xs ∧ (∀ j u, xs[j]? = some u → w.cell? ⟨b, o + j, none⟩ = some u) ∧ (∀ u ∈ xs, u.oneCell' = true) := by
  intro ts
  induction ts with
  | nil => intro o _; exact ⟨[], trivial, by simp, by simp⟩
  | cons t ts ih =>
    intro o h
    simp only [IsRowp] at h
    obtain ⟨xs, h1, h2, h3⟩ := ih (o + 2) h.2
    obtain ⟨wf, p1, a, c, p2, hA⟩ := isTp_iff.1 h.1
    refine ⟨.int .i64 t.head :: .slice a t.args.length c :: xs, ⟨wf, rfl, ⟨a, c, rfl, hA⟩, h1⟩, ?_, ?_⟩
    · intro j u hj
      match j, hj with
      | 0, hj => simp at hj; subst hj; exact p1
      | 1, hj => simp at hj; subst hj; exact p2
      | j + 2, hj => rw [show o + (j + 2) = o + 2 + j from by omega]; exact h2 j u (by simpa using hj)
    · intro u hu
      simp at hu
      rcases hu with rfl | rfl | hu
      · rfl
      · rfl
      · exact h3 u hu
theorem addr_add (b o k : Nat) : (⟨b, o, none⟩ : Addr).add k = ⟨b, o + k, none⟩ := by
  unfold Addr.add; split <;> simp_all
/-- A row of one's own, whose cells are terms, is a slice of terms. -/
theorem argsp_of_owns {ok ok' : Nat → Prop} {w : World} {base : Nat} {e : TypeId} {v : Value} {ts : List T} {xs : List Value} (hown : w.ownsRow base e 2 v ts.length xs) (hr : RowVals ok w ts xs) (hm : ∀ b, ok b → ok' b) (hg : ∀ g, v.ownBlock = some g → ok' g) : ∃ a c, v = .slice a ts.length c ∧ IsArgsp ok' w ts a c := by
  have hcells := fun g hg => hown.cells (g := g) hg
  rcases hown.2 with ⟨rfl, h0⟩ | ⟨g, cap, cur, rfl, hb, hh, hn, hc, hs, _⟩
  · exact ⟨none, 0, by rw [h0], by omega, by simp [maxLen], .inl (List.eq_nil_of_length_eq_zero h0)⟩
  · refine ⟨_, cap, rfl, hn, hc, .inr ⟨g, 0, rfl, hg g rfl, IsRowp.keep (fun _ _ => rfl) hm ts rfl (hr.isRowp (fun j u hj => ?_))⟩⟩
    have := hcells g rfl j u hj
    rw [addr_add] at this
    exact this
end Go.Proofs.YtpncmdlbmnmahaaGreat
/- Positions in terms, and slices of numbers in memory: plain definitions and lemmas; no program is named here. -/
namespace Go.Proofs.YtpncmdlbmnmahaaGreat
set_option linter.unusedVariables false
set_option linter.unusedSimpArgs false
open Go.RowKit
/-- The part at a position. -/
def T.at (t : T) : List Int → Option T
  | [] => some t
  | i :: p => if i < 0 ∨ (t.args.length : Int) ≤ i then none else (t.args[i.toNat]?).bind (fun s => s.at p)
/-- With another part put there. -/
def T.put (t : T) (u : T) : List Int → T
  | [] => u
  | i :: p => .node t.head (t.args.modify i.toNat (fun s => s.put u p))
/-- All positions, as they are listed. -/
def behind (i : Nat) (l : List (List Int)) : List (List Int) := l.map (fun p => (i : Int) :: p)
mutual
def T.all : T → List (List Int)
  | .node _ ts => [] :: T.alls 0 ts
def T.alls (i : Nat) : List T → List (List Int)
  | [] => []
  | t :: ts => behind i t.all ++ T.alls (i + 1) ts
end
/-- A slice of numbers in memory. -/
def IsIs (n₀ : Nat) (w : World) (zs : List Int) (a : Option Addr) (c : Nat) : Prop :=
  zs.length ≤ c ∧ c ≤ maxLen ∧ (zs = [] ∨ ∃ b o, a = some ⟨b, o, none⟩ ∧ b < n₀ ∧ ∀ (j : Nat) (z : Int), zs[j]? = some z → w.cell? ⟨b, o + j, none⟩ = some (.int .i64 z))
theorem IsIs.keep {n₀ n₁ : Nat} {w w' : World} {zs : List Int} {a : Option Addr} {c : Nat} (h : IsIs n₀ w zs a c) (hb : ∀ b, b < n₀ → w'.heap[b]? = w.heap[b]?) (hn : n₀ ≤ n₁) : IsIs n₁ w' zs a c := by
  obtain ⟨h1, h2, h3⟩ := h
  refine ⟨h1, h2, ?_⟩
  rcases h3 with h3 | ⟨b, o, h4, h5, h6⟩
  · exact .inl h3
  · exact .inr ⟨b, o, h4, by omega, fun j z hz => (World.cell?_of_block (a := ⟨b, o + j, none⟩) (hb b h5)).trans (h6 j z hz)⟩
theorem IsIs.below {n₀ : Nat} {w w' : World} {zs : List Int} {a : Option Addr} {c : Nat} (h : IsIs n₀ w zs a c) (hb : Below n₀ w w') : IsIs n₀ w' zs a c := h.keep (fun b h => hb.block b h) (Nat.le_refl _)
theorem IsIs.mono {n₀ n₁ : Nat} {w : World} {zs : List Int} {a : Option Addr} {c : Nat} (h : IsIs n₀ w zs a c) (hn : n₀ ≤ n₁) : IsIs n₁ w zs a c := h.keep (fun _ _ => rfl) hn
theorem IsIs.elem {n₀ : Nat} {w : World} {zs : List Int} {a : Option Addr} {c : Nat} (h : IsIs n₀ w zs a c) {k : Nat} (hk : k < zs.length) : ∃ (b o : Nat) (z : Int), a = some ⟨b, o, none⟩ ∧ b < n₀ ∧ zs[k]? = some z ∧ w.cell? ⟨b, o + k, none⟩ = some (.int .i64 z) := by
  rcases h.2.2 with rfl | ⟨b, o, h4, h5, h6⟩
  · simp at hk
  · exact ⟨b, o, zs[k], h4, h5, List.getElem?_eq_getElem hk, h6 k _ (List.getElem?_eq_getElem hk)⟩
end Go.Proofs.YtpncmdlbmnmahaaGreat
