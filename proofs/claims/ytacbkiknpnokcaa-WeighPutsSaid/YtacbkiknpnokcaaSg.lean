/- Signatures in memory: plain definitions. -/
import Derived.Test.YtacbkiknpnokcaaLt0
namespace Go.Proofs.Ytacbkiknpnokcaa
set_option linter.unusedVariables false
set_option linter.unusedSimpArgs false
open Go.RowKit

structure Sy where
  name : ByteArray
  ar : Int
  wt : Int
  tr : Bool
  deriving DecidableEq
abbrev Sg := List Sy

def Sy.cells (x : Sy) : List Value := [.string x.name, .int .i64 x.ar, .int .i64 x.wt, .bool x.tr]
abbrev sy (x : Sy) : Value := .agg #[.string x.name, .int .i64 x.ar, .int .i64 x.wt, .bool x.tr]
def Sy.wf (x : Sy) : Prop := x.name.size ≤ maxLen ∧ (Lit.int .i64 x.ar).wf = true ∧ (Lit.int .i64 x.wt).wf = true
def IsSy (W : World) (x : Sy) (b o : Nat) : Prop :=
  x.wf ∧ W.cell? ⟨b, o, none⟩ = some (.string x.name) ∧ W.cell? ⟨b, o + 1, none⟩ = some (.int .i64 x.ar) ∧ W.cell? ⟨b, o + 2, none⟩ = some (.int .i64 x.wt) ∧ W.cell? ⟨b, o + 3, none⟩ = some (.bool x.tr)
def IsSg (n₀ : Nat) (W : World) (g : Sg) (a : Option Addr) (c : Nat) : Prop :=
  g.length ≤ c ∧ c ≤ maxLen ∧ (g = [] ∨ ∃ b o, a = some ⟨b, o, none⟩ ∧ b < n₀ ∧ ∀ (j : Nat) (x : Sy), g[j]? = some x → IsSy W x b (o + j * 4))
theorem IsSg.below {n₀ : Nat} {w w' : World} {g : Sg} {a : Option Addr} {c : Nat} (h : IsSg n₀ w g a c) (hb : Below n₀ w w') : IsSg n₀ w' g a c := by
  obtain ⟨h1, h2, h3⟩ := h
  refine ⟨h1, h2, ?_⟩
  rcases h3 with h3 | ⟨b, o, h4, h5, h6⟩
  · exact .inl h3
  · refine .inr ⟨b, o, h4, h5, fun j x hx => ?_⟩
    obtain ⟨p0, p1, p2, p3, p4⟩ := h6 j x hx
    exact ⟨p0, (hb.cell (p := ⟨b, _, none⟩) h5).trans p1, (hb.cell (p := ⟨b, _, none⟩) h5).trans p2, (hb.cell (p := ⟨b, _, none⟩) h5).trans p3, (hb.cell (p := ⟨b, _, none⟩) h5).trans p4⟩
theorem IsSg.mono {n₀ n₁ : Nat} {w : World} {g : Sg} {a : Option Addr} {c : Nat} (h : IsSg n₀ w g a c) (hn : n₀ ≤ n₁) : IsSg n₁ w g a c := by
  obtain ⟨h1, h2, h3⟩ := h
  refine ⟨h1, h2, ?_⟩
  rcases h3 with h3 | ⟨b, o, h4, h5, h6⟩
  · exact .inl h3
  · exact .inr ⟨b, o, h4, by omega, h6⟩
theorem later_sg {W : World} {g : Sg} {a : Option Addr} {c : Nat} (h : IsSg W.heap.size W g a c) : Later (fun X => IsSg X.heap.size X g a c) W := fun X hX => (h.below hX).mono hX.size
theorem IsSg.elem {n₀ : Nat} {w : World} {g : Sg} {a : Option Addr} {c : Nat} (h : IsSg n₀ w g a c) {i : Nat} (hi : i < g.length) :
    ∃ (b o : Nat) (x : Sy), a = some ⟨b, o, none⟩ ∧ b < n₀ ∧ g[i]? = some x ∧ x.wf ∧ w.cell? ⟨b, o + i * 4, none⟩ = some (.string x.name) ∧ w.cell? ⟨b, o + i * 4 + 1, none⟩ = some (.int .i64 x.ar) ∧
      w.cell? ⟨b, o + i * 4 + 2, none⟩ = some (.int .i64 x.wt) ∧ w.cell? ⟨b, o + i * 4 + 3, none⟩ = some (.bool x.tr) := by
  obtain ⟨_, _, h3⟩ := h
  rcases h3 with rfl | ⟨b, o, rfl, h4, h5⟩
  · simp at hi
  · obtain ⟨p0, p1, p2, p3, p4⟩ := h5 i _ (List.getElem?_eq_getElem hi)
    exact ⟨b, o, g[i], rfl, h4, List.getElem?_eq_getElem hi, p0, p1, p2, p3, p4⟩

/-! ### What the document says of signatures -/
/-- May the symbol not be in a signature? -/
def badSy (x : Sy) : Bool := decide (x.name.size < 1) || decide (64 < x.name.size) || decide (x.ar < 0) || decide (8 < x.ar) || decide (x.wt < 1) || decide (1000 < x.wt)
/-- The number of the first symbol of that name; -1: none. -/
def idxSy (name : ByteArray) : Sg → Option Nat
  | [] => none
  | x :: g => if x.name = name then some 0 else (idxSy name g).map (· + 1)
theorem idxSy_get {name : ByteArray} : ∀ {g : Sg} {i : Nat}, idxSy name g = some i → ∃ x, g[i]? = some x ∧ x.name = name ∧ ∀ (j : Nat) (y : Sy), j < i → g[j]? = some y → y.name ≠ name
  | [], i, h => by simp [idxSy] at h
  | x :: g, i, h => by
    simp only [idxSy] at h
    split at h
    · rename_i hx
      obtain rfl := Option.some.inj h
      exact ⟨x, rfl, hx, fun j y hj => by omega⟩
    · rename_i hx
      rw [Option.map_eq_some_iff] at h
      obtain ⟨k, hk, rfl⟩ := h
      obtain ⟨y, h1, h2, h3⟩ := idxSy_get hk
      refine ⟨y, by simpa using h1, h2, fun j z hj hz => ?_⟩
      cases j with
      | zero => simp at hz; subst hz; exact hx
      | succ j => exact h3 j z (by omega) (by simpa using hz)
theorem idxSy_none {name : ByteArray} : ∀ {g : Sg}, idxSy name g = none → ∀ x ∈ g, x.name ≠ name
  | [], h => by simp
  | x :: g, h => by
    simp only [idxSy] at h
    split at h
    · cases h
    · rename_i hx
      have := idxSy_none (Option.map_eq_none_iff.1 h)
      intro y hy
      rcases List.mem_cons.1 hy with rfl | hy
      · exact hx
      · exact this y hy
/-- Found at k, where none before has the name. -/
theorem idxSy_hit {name : ByteArray} : ∀ {g : Sg} {k : Nat} {x : Sy}, (∀ (j : Nat) (y : Sy), j < k → g[j]? = some y → y.name ≠ name) → g[k]? = some x → x.name = name → idxSy name g = some k
  | [], k, x, _, h, _ => by simp at h
  | y :: g, 0, x, _, h, hx => by simp at h; subst h; simp [idxSy, hx]
  | y :: g, k + 1, x, hno, h, hx => by
    have h0 := hno 0 y (by omega) rfl
    have := idxSy_hit (g := g) (k := k) (fun j z hj hz => hno (j + 1) z (by omega) (by simpa using hz)) (by simpa using h) hx
    simp [idxSy, h0, this]
theorem idxSy_miss {name : ByteArray} : ∀ {g : Sg}, (∀ (j : Nat) (y : Sy), g[j]? = some y → y.name ≠ name) → idxSy name g = none
  | [], _ => rfl
  | y :: g, h => by
    have h0 := h 0 y rfl
    have := idxSy_miss (g := g) (fun j z hz => h (j + 1) z (by simpa using hz))
    simp [idxSy, h0, this]
/-- Is each symbol the first of its name? -/
def difSg (g : Sg) : Bool := (List.range g.length).all fun i => match g[i]? with
  | some x => decide (idxSy x.name g = some i)
  | none => true
def sy0 : Sy := { name := ⟨#[36, 116, 114, 117, 101]⟩, ar := 0, wt := 1, tr := true }
def rightG (g : Sg) : Bool := decide (1 ≤ g.length) && decide (g.length ≤ 256) && decide (g[0]? = some sy0) && !(g.any badSy) && difSg g
def errG (g : Sg) : Int := if rightG g then 0 else 1

/-- Do all symbols of a term stand in the signature, with as many arguments? -/
def armOk (g : Sg) (h : Int) (n : Nat) : Bool := decide (h < 0) || match g[h.toNat]? with
  | some x => decide ((n : Int) = x.ar)
  | none => false
mutual
def fitsT (g : Sg) : T → Bool
  | .node h ts => decide (h < 0) || (armOk g h ts.length && fitsL g ts)
def fitsL (g : Sg) : List T → Bool
  | [] => true
  | t :: ts => fitsT g t && fitsL g ts
end
theorem fitsT_eq (g : Sg) (t : T) : fitsT g t = (decide (t.head < 0) || (armOk g t.head t.args.length && fitsL g t.args)) := by cases t; rfl
theorem fitsL_all (g : Sg) (ts : List T) : fitsL g ts = ts.all (fitsT g) := by
  induction ts with
  | nil => rfl
  | cons t ts ih => simp [fitsL, ih]
/-- Is the symbol a predicate? -/
def predS (g : Sg) (h : Int) : Bool := decide (0 ≤ h) && match g[h.toNat]? with
  | some x => x.tr
  | none => false
mutual
def predT (g : Sg) : T → Bool
  | .node h ts => predS g h || predL g ts
def predL (g : Sg) : List T → Bool
  | [] => false
  | t :: ts => predT g t || predL g ts
end
theorem predT_eq (g : Sg) (t : T) : predT g t = (predS g t.head || predL g t.args) := by cases t; rfl
theorem predL_any (g : Sg) (ts : List T) : predL g ts = ts.any (predT g) := by
  induction ts with
  | nil => rfl
  | cons t ts ih => simp [predL, ih]
def errT (g : Sg) (t : T) : Int := if rightG g then if t.check = 0 then if fitsT g t then if predL g t.args then 10 else 0 else 1 else t.check else 1
/-- The weight of a head. -/
def wo (g : Sg) (h : Int) : Int := if h < 0 then 1 else match g[h.toNat]? with
  | some x => x.wt
  | none => 0
mutual
def wtT (g : Sg) : T → Int
  | .node h ts => wo g h + wtL g ts
def wtL (g : Sg) : List T → Int
  | [] => 0
  | t :: ts => wtT g t + wtL g ts
end
theorem wtT_eq (g : Sg) (t : T) : wtT g t = wo g t.head + wtL g t.args := by cases t; rfl

end Go.Proofs.Ytacbkiknpnokcaa
