/- Positions in terms, and slices of numbers in memory: plain definitions and lemmas; no program is named here. -/
import Derived.Test.YtfkaecjdncjggaaTp
namespace Go.Proofs.Ytfkaecjdncjggaa
set_option linter.unusedVariables false
set_option linter.unusedSimpArgs false
open Go.RowKit

/-- The part at a position. -/
def T.at (t : T) : List Int → Option T
  | [] => some t
  | i :: p => if i < 0 ∨ (t.args.length : Int) ≤ i then none else (t.args[i.toNat]?).bind (fun s => s.at p)
theorem T.at_append (t : T) (p q : List Int) : t.at (p ++ q) = (t.at p).bind (fun s => s.at q) := by
  induction p generalizing t with
  | nil => simp [T.at]
  | cons i p ih =>
    simp only [List.cons_append, T.at]
    split
    · rfl
    · cases t.args[i.toNat]? with
      | none => rfl
      | some s => simp [ih]
theorem T.at_one {s : T} {i : Int} (h0 : 0 ≤ i) (h1 : i < s.args.length) {x : T} (hx : s.args[i.toNat]? = some x) : s.at [i] = some x := by
  simp [T.at, hx]; omega
theorem T.at_one_none {s : T} {i : Int} (h : i < 0 ∨ (s.args.length : Int) ≤ i) : s.at [i] = none := by
  simp [T.at, h]
theorem T.at_take {t s : T} {p : List Int} {k : Nat} {i : Int} (h : t.at (p.take k) = some s) (hi : p[k]? = some i) : t.at (p.take (k + 1)) = s.at [i] := by
  obtain ⟨hk, e⟩ := List.getElem?_eq_some_iff.1 hi
  rw [List.take_succ_eq_append_getElem hk, T.at_append, h, e]; rfl
theorem T.at_none {t s : T} {p : List Int} {k : Nat} {i : Int} (h : t.at (p.take k) = some s) (hi : p[k]? = some i) (hn : s.at [i] = none) : t.at p = none := by
  have h1 := T.at_take h hi
  rw [hn] at h1
  have h2 := T.at_append t (p.take (k + 1)) (p.drop (k + 1))
  rw [List.take_append_drop, h1] at h2
  exact h2
theorem T.at_size {t s : T} {p : List Int} (h : t.at p = some s) : s.size ≤ t.size := by
  induction p generalizing t with
  | nil => simp [T.at] at h; subst h; exact Nat.le_refl _
  | cons i p ih =>
    simp only [T.at] at h
    split at h
    · cases h
    · cases hx : t.args[i.toNat]? with
      | none => rw [hx] at h; cases h
      | some x => rw [hx] at h; have h1 := ih h; have h2 := T.size_lt_of_mem hx; have h3 := T.size_eq t; omega

/-- With another part put there. -/
def T.put (t : T) (u : T) : List Int → T
  | [] => u
  | i :: p => .node t.head (t.args.modify i.toNat (fun s => s.put u p))

/-- All positions, as they are listed. -/
def behind (i : Nat) (l : List (List Int)) : List (List Int) := l.map (fun p => (i : Int) :: p)
mutual
def T.all : T → List (List Int)
  | .node _ ts => [] :: T.alls 0 ts
def T.alls (i : Nat) : List T → List (List Int)
  | [] => []
  | t :: ts => behind i t.all ++ T.alls (i + 1) ts
end

/-- A slice of numbers in memory. -/
def IsIs (n₀ : Nat) (w : World) (zs : List Int) (a : Option Addr) (c : Nat) : Prop :=
  zs.length ≤ c ∧ c ≤ maxLen ∧ (zs = [] ∨ ∃ b o, a = some ⟨b, o, none⟩ ∧ b < n₀ ∧ ∀ (j : Nat) (z : Int), zs[j]? = some z → w.cell? ⟨b, o + j, none⟩ = some (.int .i64 z))
theorem IsIs.keep {n₀ n₁ : Nat} {w w' : World} {zs : List Int} {a : Option Addr} {c : Nat} (h : IsIs n₀ w zs a c) (hb : ∀ b, b < n₀ → w'.heap[b]? = w.heap[b]?) (hn : n₀ ≤ n₁) : IsIs n₁ w' zs a c := by
  obtain ⟨h1, h2, h3⟩ := h
  refine ⟨h1, h2, ?_⟩
  rcases h3 with h3 | ⟨b, o, h4, h5, h6⟩
  · exact .inl h3
  · exact .inr ⟨b, o, h4, by omega, fun j z hz => (World.cell?_of_block (a := ⟨b, o + j, none⟩) (hb b h5)).trans (h6 j z hz)⟩
theorem IsIs.below {n₀ : Nat} {w w' : World} {zs : List Int} {a : Option Addr} {c : Nat} (h : IsIs n₀ w zs a c) (hb : Below n₀ w w') : IsIs n₀ w' zs a c := h.keep (fun b h => hb.block b h) (Nat.le_refl _)
theorem IsIs.mono {n₀ n₁ : Nat} {w : World} {zs : List Int} {a : Option Addr} {c : Nat} (h : IsIs n₀ w zs a c) (hn : n₀ ≤ n₁) : IsIs n₁ w zs a c := h.keep (fun _ _ => rfl) hn
theorem IsIs.elem {n₀ : Nat} {w : World} {zs : List Int} {a : Option Addr} {c : Nat} (h : IsIs n₀ w zs a c) {k : Nat} (hk : k < zs.length) : ∃ (b o : Nat) (z : Int), a = some ⟨b, o, none⟩ ∧ b < n₀ ∧ zs[k]? = some z ∧ w.cell? ⟨b, o + k, none⟩ = some (.int .i64 z) := by
  rcases h.2.2 with rfl | ⟨b, o, h4, h5, h6⟩
  · simp at hk
  · exact ⟨b, o, zs[k], h4, h5, List.getElem?_eq_getElem hk, h6 k _ (List.getElem?_eq_getElem hk)⟩

end Go.Proofs.Ytfkaecjdncjggaa
