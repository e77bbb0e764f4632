/- Two boxes of terms that change places. -/
import Derived.Test.YtcbjnfdhghhgeaaPrs
namespace Go.Proofs.Ytcbjnfdhghhgeaa
set_option linter.unusedVariables false
set_option linter.unusedSimpArgs false
open Go.RowKit

def swapW (w : World) (b2 b4 : Nat) (v1 v2 v3 v4 : Value) (C : Obj) : World :=
  ((((w.setCell ⟨b2, 0, none⟩ v1).setCell ⟨b2, 1, none⟩ v2).setCell ⟨b4, 0, none⟩ v3).setCell ⟨b4, 1, none⟩ v4).alloc C
section
variable {w : World} {b2 b4 : Nat} {v1 v2 v3 v4 c0 c1 c2 c3 : Value} {C : Obj}
theorem swapW_size : (swapW w b2 b4 v1 v2 v3 v4 C).heap.size = w.heap.size + 1 := by simp [swapW]
theorem swapW_other {b : Nat} (h2 : b ≠ b2) (h4 : b ≠ b4) (hb : b < w.heap.size) : (swapW w b2 b4 v1 v2 v3 v4 C).heap[b]? = w.heap[b]? := by
  unfold swapW
  rw [Below.heap_alloc _ _ _ (by simpa using hb), Below.heap_setCell _ _ _ _ h4, Below.heap_setCell _ _ _ _ h4, Below.heap_setCell _ _ _ _ h2, Below.heap_setCell _ _ _ _ h2]
theorem swapW_below {n : Nat} (h2 : n ≤ b2) (h4 : n ≤ b4) (hn : n ≤ w.heap.size) : Below n w (swapW w b2 b4 v1 v2 v3 v4 C) :=
  (((((Below.refl n w).setCell (p := ⟨b2, 0, none⟩) h2 v1).setCell (p := ⟨b2, 1, none⟩) h2 v2).setCell (p := ⟨b4, 0, none⟩) h4 v3).setCell (p := ⟨b4, 1, none⟩) h4 v4).alloc (by simpa using hn) C
theorem swapW_cells (hne : b2 ≠ b4) {e : TypeId} {fz fz' : Nat × Nat} (h2 : w.heap[b2]? = some (.cells #[c0, c1] e fz)) (h4 : w.heap[b4]? = some (.cells #[c2, c3] e fz')) :
    (swapW w b2 b4 v1 v2 v3 v4 C).heap[b2]? = some (.cells #[v1, v2] e fz) ∧ (swapW w b2 b4 v1 v2 v3 v4 C).heap[b4]? = some (.cells #[v3, v4] e fz') := by
  have hl2 : b2 < w.heap.size := (Array.getElem?_eq_some_iff.1 h2).1
  have hl4 : b4 < w.heap.size := (Array.getElem?_eq_some_iff.1 h4).1
  unfold swapW
  constructor
  · rw [Below.heap_alloc _ _ _ (by simpa using hl2), Below.heap_setCell _ _ _ _ hne, Below.heap_setCell _ _ _ _ hne, heap_setCell_same (heap_setCell_same h2 _)]
    rfl
  · rw [Below.heap_alloc _ _ _ (by simpa using hl4), heap_setCell_same (heap_setCell_same (by rw [Below.heap_setCell _ _ _ _ (Ne.symm hne), Below.heap_setCell _ _ _ _ (Ne.symm hne)]; exact h4) _)]
    rfl
theorem cells_of_box {W : World} {b : Nat} {x y : Value} {e : TypeId} (h : W.heap[b]? = some (.cells #[x, y] e (0, 0))) : W.cell? ⟨b, 0, none⟩ = some x ∧ W.cell? ⟨b, 1, none⟩ = some y ∧ W.frozen? ⟨b, 0, none⟩ = false ∧ W.frozen? ⟨b, 1, none⟩ = false := by
  refine ⟨?_, ?_, ?_, ?_⟩ <;> simp [World.cell?, World.frozen?, h]
end

/-- What the solver's round keeps: two boxes with terms, the solution so far, and the pairs that are left. -/
structure SolS (w : World) (n : Nat) (wr : World) (b5 b6 : Nat) (A B : T) (aA : Option Addr) (cA : Nat) (aB : Option Addr) (cB : Nat) (s : Sb) (a4 : Option Addr) (c4 : Nat) (l : Prs) (a0 : Option Addr) (W : World) : Prop where
  h5 : W.heap[b5]? = some (.cells #[.int .i64 A.head, .slice aA A.args.length cA] 25 (0, 0))
  h6 : W.heap[b6]? = some (.cells #[.int .i64 B.head, .slice aB B.args.length cB] 25 (0, 0))
  hA : IsArgsp (fun b => b ≠ b5 ∧ b ≠ b6 ∧ b < W.heap.size) W A.args aA cA
  hB : IsArgsp (fun b => b ≠ b5 ∧ b ≠ b6 ∧ b < W.heap.size) W B.args aB cB
  hs : IsBs n W s a4 c4
  hl : ∀ cc, IsPs n wr l a0 cc → IsPs n W l a0 cc
  bel : Below w.heap.size w W
  n5 : n ≤ b5
  n6 : n ≤ b6
  nW : n ≤ W.heap.size
  ne : b5 ≠ b6
  wn : w.heap.size ≤ n
section
variable {w wr W W' : World} {n b5 b6 : Nat} {A B : T} {aA aB a4 a0 : Option Addr} {cA cB c4 : Nat} {s : Sb} {l : Prs}
theorem SolS.later (h : SolS w n wr b5 b6 A B aA cA aB cB s a4 c4 l a0 W) (hb : Below W.heap.size W W') : SolS w n wr b5 b6 A B aA cA aB cB s a4 c4 l a0 W' :=
  ⟨(hb.block b5 (Array.getElem?_eq_some_iff.1 h.h5).1).trans h.h5, (hb.block b6 (Array.getElem?_eq_some_iff.1 h.h6).1).trans h.h6,
    h.hA.keep (fun b k => hb.block b k.2.2) (fun b k => ⟨k.1, k.2.1, Nat.lt_of_lt_of_le k.2.2 hb.size⟩), h.hB.keep (fun b k => hb.block b k.2.2) (fun b k => ⟨k.1, k.2.1, Nat.lt_of_lt_of_le k.2.2 hb.size⟩),
    h.hs.below (hb.mono h.nW), fun cc k => (h.hl cc k).below (hb.mono h.nW), h.bel.trans (hb.mono (Nat.le_trans h.wn h.nW)), h.n5, h.n6, Nat.le_trans h.nW hb.size, h.ne, h.wn⟩
theorem SolS.swap (h : SolS w n wr b5 b6 A B aA cA aB cB s a4 c4 l a0 W) (C : Obj) : SolS w n wr b5 b6 B A aB cB aA cA s a4 c4 l a0 (swapW W b5 b6 (.int .i64 B.head) (.slice aB B.args.length cB) (.int .i64 A.head) (.slice aA A.args.length cA) C) := by
  have hb := swapW_below (w := W) (v1 := .int .i64 B.head) (v2 := .slice aB B.args.length cB) (v3 := .int .i64 A.head) (v4 := .slice aA A.args.length cA) (C := C) h.n5 h.n6 h.nW
  obtain ⟨k5, k6⟩ := swapW_cells (v1 := .int .i64 B.head) (v2 := .slice aB B.args.length cB) (v3 := .int .i64 A.head) (v4 := .slice aA A.args.length cA) (C := C) h.ne h.h5 h.h6
  have hz := swapW_size (w := W) (b2 := b5) (b4 := b6) (v1 := .int .i64 B.head) (v2 := .slice aB B.args.length cB) (v3 := .int .i64 A.head) (v4 := .slice aA A.args.length cA) (C := C)
  exact ⟨k5, k6, h.hB.keep (fun b k => swapW_other k.1 k.2.1 k.2.2) (fun b k => ⟨k.1, k.2.1, by have := k.2.2; omega⟩), h.hA.keep (fun b k => swapW_other k.1 k.2.1 k.2.2) (fun b k => ⟨k.1, k.2.1, by have := k.2.2; omega⟩),
    h.hs.below hb, fun cc k => (h.hl cc k).below hb, h.bel.trans (hb.mono h.wn), h.n5, h.n6, by have := h.nW; omega, h.ne, h.wn⟩
theorem SolS.args (h : SolS w n wr b5 b6 A B aA cA aB cB s a4 c4 l a0 W) : IsArgs W.heap.size W A.args aA cA ∧ IsArgs W.heap.size W B.args aB cB := ⟨h.hA.toArgs (fun b k => k.2.2), h.hB.toArgs (fun b k => k.2.2)⟩
theorem SolS.cells (h : SolS w n wr b5 b6 A B aA cA aB cB s a4 c4 l a0 W) : W.cell? ⟨b5, 0, none⟩ = some (.int .i64 A.head) ∧ W.cell? ⟨b5, 1, none⟩ = some (.slice aA A.args.length cA) ∧ W.cell? ⟨b6, 0, none⟩ = some (.int .i64 B.head) ∧ W.cell? ⟨b6, 1, none⟩ = some (.slice aB B.args.length cB) ∧ b5 < W.heap.size ∧ b6 < W.heap.size :=
  ⟨(cells_of_box h.h5).1, (cells_of_box h.h5).2.1, (cells_of_box h.h6).1, (cells_of_box h.h6).2.1, (Array.getElem?_eq_some_iff.1 h.h5).1, (Array.getElem?_eq_some_iff.1 h.h6).1⟩
theorem SolS.froz (h : SolS w n wr b5 b6 A B aA cA aB cB s a4 c4 l a0 W) : W.frozen? ⟨b5, 0, none⟩ = false ∧ W.frozen? ⟨b5, 1, none⟩ = false ∧ W.frozen? ⟨b6, 0, none⟩ = false ∧ W.frozen? ⟨b6, 1, none⟩ = false :=
  ⟨(cells_of_box h.h5).2.2.1, (cells_of_box h.h5).2.2.2, (cells_of_box h.h6).2.2.1, (cells_of_box h.h6).2.2.2⟩
end
end Go.Proofs.Ytcbjnfdhghhgeaa
