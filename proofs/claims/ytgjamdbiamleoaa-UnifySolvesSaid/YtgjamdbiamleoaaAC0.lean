/- A block of cells, in every later world: what walks of examples keep. -/
import Derived.Test.YtgjamdbiamleoaaLt0
import Derived.Deep.RegionHeld3
namespace Go.Proofs.Ytgjamdbiamleoaa
set_option linter.unusedVariables false
set_option linter.unusedSimpArgs false
open Go.RowKit

/-- A block of cells, in every later world. -/
def Cs (b : Nat) (cs : List Value) (X : World) : Prop := b < X.heap.size ∧ ∀ i u, cs[i]? = some u → X.cell? ⟨b, i, none⟩ = some u
theorem later_cs (W : World) (cs : Array Value) (ty : TypeId) : Later (Cs W.heap.size cs.toList) (W.alloc (.cells cs ty)) := fun X hX =>
  ⟨by have := hX.size; simp at this; omega, fun i u hu => (hX.cell (p := ⟨W.heap.size, i, none⟩) (by simp)).trans (by
    have h := MapKept.heap_alloc W (.cells cs ty)
    simp only [World.cell?, h.1]
    simpa using hu)⟩
theorem Later.pushC {F : World → Prop} {W W' : World} (k : Later F W) (hb : Below W.heap.size W W') (cs : Array Value) (ty : TypeId) : Later (fun X => Cs W'.heap.size cs.toList X ∧ F X) (W'.alloc (.cells cs ty)) :=
  (k.mv (hb.alloc hb.size _)).and (later_cs W' cs ty)
theorem Later.step {F : World → Prop} {W W' : World} (k : Later F W) (hb : Below W.heap.size W W') : Later F W' := k.mv hb

theorem bl_call {w X u : World} (hX : Below w.heap.size w X) (hu : Below X.heap.size X u) : Below w.heap.size w u := hX.trans (hu.mono hX.size)
theorem vc_lt {b : Nat} {h : Int} {a : Option Addr} {n c : Nat} {X : World} (h : Vc b h a n c X) : b < X.heap.size := World.block_lt_of_cell? X ⟨b, 0, none⟩ h.1
end Go.Proofs.Ytgjamdbiamleoaa
