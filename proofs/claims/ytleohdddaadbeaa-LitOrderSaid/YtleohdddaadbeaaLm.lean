/- Literals in memory. -/
import Derived.Test.YtleohdddaadbeaaQBo
namespace Go.Proofs.Ytleohdddaadbeaa
set_option linter.unusedVariables false
set_option linter.unusedSimpArgs false
open Go.RowKit

/-- A literal as a value: which terms, and where their arguments lie. -/
structure LV where
  n : Bool
  l : T
  r : T
  pa : Option Addr
  ca : Nat
  pb : Option Addr
  cb : Nat
abbrev LV.v (x : LV) : Value := .agg #[.bool x.n, .int .i64 x.l.head, .slice x.pa x.l.args.length x.ca, .int .i64 x.r.head, .slice x.pb x.r.args.length x.cb]
abbrev LV.obj (x : LV) : Obj := .cells #[.bool x.n, .int .i64 x.l.head, .slice x.pa x.l.args.length x.ca, .int .i64 x.r.head, .slice x.pb x.r.args.length x.cb] 27
/-- A variable of type Lit: its five cells. -/
def Lc (b : Nat) (x : LV) (X : World) : Prop :=
  X.cell? ⟨b, 0, none⟩ = some (.bool x.n) ∧ X.cell? ⟨b, 1, none⟩ = some (.int .i64 x.l.head) ∧ X.cell? ⟨b, 2, none⟩ = some (.slice x.pa x.l.args.length x.ca) ∧ X.cell? ⟨b, 3, none⟩ = some (.int .i64 x.r.head) ∧ X.cell? ⟨b, 4, none⟩ = some (.slice x.pb x.r.args.length x.cb)
theorem later_lc (W : World) (x : LV) : Later (Lc W.heap.size x) (W.alloc x.obj) := fun X hX =>
  ⟨(hX.cell (p := ⟨W.heap.size, 0, none⟩) (by simp)).trans (by simp [go_sem]), (hX.cell (p := ⟨W.heap.size, 1, none⟩) (by simp)).trans (by simp [go_sem]), (hX.cell (p := ⟨W.heap.size, 2, none⟩) (by simp)).trans (by simp [go_sem]),
    (hX.cell (p := ⟨W.heap.size, 3, none⟩) (by simp)).trans (by simp [go_sem]), (hX.cell (p := ⟨W.heap.size, 4, none⟩) (by simp)).trans (by simp [go_sem])⟩
/-- A new variable of type Lit, laid in a later world. -/
theorem Later.pushL {F : World → Prop} {W W' : World} (k : Later F W) (hb : Below W.heap.size W W') (x : LV) : Later (fun X => Lc W'.heap.size x X ∧ F X) (W'.alloc x.obj) :=
  (k.mv (hb.alloc hb.size _)).and (later_lc W' x)
/-- The sides of a literal in memory. -/
structure IsLv (n₀ : Nat) (w : World) (x : LV) : Prop where
  lw : (Lit.int .i64 x.l.head).wf = true
  rw : (Lit.int .i64 x.r.head).wf = true
  la : IsArgs n₀ w x.l.args x.pa x.ca
  ra : IsArgs n₀ w x.r.args x.pb x.cb
theorem IsLv.below {n₀ : Nat} {w w' : World} {x : LV} (h : IsLv n₀ w x) (hb : Below n₀ w w') : IsLv n₀ w' x := ⟨h.lw, h.rw, h.la.below hb, h.ra.below hb⟩
theorem IsLv.mono {n₀ n₁ : Nat} {w : World} {x : LV} (h : IsLv n₀ w x) (hn : n₀ ≤ n₁) : IsLv n₁ w x := ⟨h.lw, h.rw, h.la.mono hn, h.ra.mono hn⟩
theorem later_lv {W : World} {x : LV} (h : IsLv W.heap.size W x) : Later (fun X => IsLv X.heap.size X x) W := fun X hX => (h.below hX).mono hX.size
/-- Are both sides of a size that can be walked? -/
def LV.sz (x : LV) : Prop := x.l.size ≤ 1000000000000 ∧ x.r.size ≤ 1000000000000
/-- The literal with its sides changed. -/
def LV.turn (x : LV) : LV := ⟨x.n, x.r, x.l, x.pb, x.cb, x.pa, x.ca⟩
theorem IsLv.turn {n₀ : Nat} {w : World} {x : LV} (h : IsLv n₀ w x) : IsLv n₀ w x.turn := ⟨h.rw, h.lw, h.ra, h.la⟩

end Go.Proofs.Ytleohdddaadbeaa
