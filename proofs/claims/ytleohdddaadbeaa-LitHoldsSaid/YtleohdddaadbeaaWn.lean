/- Worlds of few things in memory: variables of type Interp. -/
import Derived.Test.YtleohdddaadbeaaWm
import Derived.Test.YtleohdddaadbeaaQBo
namespace Go.Proofs.Ytleohdddaadbeaa
set_option linter.unusedVariables false
set_option linter.unusedSimpArgs false
open Go.RowKit

abbrev ipV (m : Ip) (a : Option Addr) (c : Nat) : Value := .agg #[.int .i64 m.size, .slice a m.rows.length c]
abbrev ipO (m : Ip) (a : Option Addr) (c : Nat) : Obj := .cells #[.int .i64 m.size, .slice a m.rows.length c] 47
/-- A variable of type Interp: its two cells. -/
def Ic (b : Nat) (m : Ip) (a : Option Addr) (c : Nat) (X : World) : Prop := X.cell? ⟨b, 0, none⟩ = some (.int .i64 m.size) ∧ X.cell? ⟨b, 1, none⟩ = some (.slice a m.rows.length c)
theorem later_ic (W : World) (m : Ip) (a : Option Addr) (c : Nat) : Later (Ic W.heap.size m a c) (W.alloc (ipO m a c)) := fun X hX =>
  ⟨(hX.cell (p := ⟨W.heap.size, 0, none⟩) (by simp)).trans (by simp [go_sem]), (hX.cell (p := ⟨W.heap.size, 1, none⟩) (by simp)).trans (by simp [go_sem])⟩
theorem Later.pushI {F : World → Prop} {W W' : World} (k : Later F W) (hb : Below W.heap.size W W') (m : Ip) (a : Option Addr) (c : Nat) : Later (fun X => Ic W'.heap.size m a c X ∧ F X) (W'.alloc (ipO m a c)) :=
  (k.mv (hb.alloc hb.size _)).and (later_ic W' m a c)
theorem later_rs {W : World} {rs : List (List Int)} {a : Option Addr} {c : Nat} (h : IsRs W.heap.size W rs a c) : Later (fun X => IsRs X.heap.size X rs a c) W := fun X hX => (h.below hX).mono hX.size

end Go.Proofs.Ytleohdddaadbeaa
