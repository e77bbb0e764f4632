/- Facts on memory that last: what holds in every later world. -/
import Derived.Test.YtfkaecjdncjggaaPl0
namespace Go.Proofs.Ytfkaecjdncjggaa
set_option linter.unusedVariables false
set_option linter.unusedSimpArgs false
open Go.RowKit

/-- F holds in W and in every later world. -/
def Later (F : World → Prop) (W : World) : Prop := ∀ W', Below W.heap.size W W' → F W'
theorem Later.now {F : World → Prop} {W : World} (h : Later F W) : F W := h W (Below.refl _ _)
theorem Later.mv {F : World → Prop} {W W' : World} (h : Later F W) (hb : Below W.heap.size W W') : Later F W' := fun X hX => h X (hb.trans (hX.mono hb.size))
theorem Later.and {F G : World → Prop} {W : World} (h : Later F W) (k : Later G W) : Later (fun X => G X ∧ F X) W := fun X hX => ⟨k X hX, h X hX⟩
theorem Later.below {w W : World} (h : Below w.heap.size w W) : Later (fun X => Below w.heap.size w X) W := fun X hX => h.trans (hX.mono h.size)
theorem later_args {W : World} {ts : List T} {a : Option Addr} {c : Nat} (h : IsArgs W.heap.size W ts a c) : Later (fun X => IsArgs X.heap.size X ts a c) W := fun X hX => (h.below hX).mono hX.size
theorem later_is {W : World} {zs : List Int} {a : Option Addr} {c : Nat} (h : IsIs W.heap.size W zs a c) : Later (fun X => IsIs X.heap.size X zs a c) W := fun X hX => (h.below hX).mono hX.size

/-- A variable of type Term: its two cells. -/
def Vc (b : Nat) (h : Int) (a : Option Addr) (n c : Nat) (X : World) : Prop := X.cell? ⟨b, 0, none⟩ = some (.int .i64 h) ∧ X.cell? ⟨b, 1, none⟩ = some (.slice a n c)
theorem later_var (W : World) (h : Int) (a : Option Addr) (n c : Nat) : Later (Vc W.heap.size h a n c) (W.alloc (tmCells h a n c)) := fun X hX =>
  ⟨(hX.cell (p := ⟨W.heap.size, 0, none⟩) (by simp)).trans (by simp [go_sem]), (hX.cell (p := ⟨W.heap.size, 1, none⟩) (by simp)).trans (by simp [go_sem])⟩
/-- A new variable of type Term, laid in a later world. -/
theorem Later.push {F : World → Prop} {W W' : World} (k : Later F W) (hb : Below W.heap.size W W') (h : Int) (a : Option Addr) (n c : Nat) : Later (fun X => Vc W'.heap.size h a n c X ∧ F X) (W'.alloc (tmCells h a n c)) :=
  (k.mv (hb.alloc hb.size _)).and (later_var W' h a n c)
/-- A new variable that holds a term whose arguments lie in memory. -/
theorem Later.pushT {F : World → Prop} {W W' : World} (k : Later F W) (hb : Below W.heap.size W W') (x : T) (a : Option Addr) (c : Nat) (hA : IsArgs W'.heap.size W' x.args a c) : Later (fun X => Vc W'.heap.size x.head a x.args.length c X ∧ IsArgs X.heap.size X x.args a c ∧ F X) (W'.alloc (tmCells x.head a x.args.length c)) :=
  ((k.mv (hb.alloc hb.size _)).and ((later_args hA).mv ((Below.refl _ _).alloc (Nat.le_refl _) _))).and (later_var W' _ a _ c)
theorem heap_alloc_size (W : World) (o : Obj) : (W.alloc o).heap.size = W.heap.size + 1 := by simp

end Go.Proofs.Ytfkaecjdncjggaa
