/- What is plain in the contract of Vars: variables in order, slices of ints, frames of iterators. -/
import Derived.Test.YtleohdddaadbeaaGreatQBa
import Derived.Maps.OwnIn
namespace Go.Proofs.YtleohdddaadbeaaGreat
set_option linter.unusedVariables false
set_option linter.unusedSimpArgs false
open Go.RowKit Go.Shelf
attribute [local go_sem] Oper.semAt_some

/-- The variables among these, each once, in the order of their first occurrences. -/
def varStep (acc : List Int) (x : Nat × T) : List Int := if x.2.head < 0 then (if acc.contains (-1 - x.2.head) then acc else acc ++ [-1 - x.2.head]) else acc
def varsOf (pre : List (Nat × T)) : List Int := pre.foldl varStep []
theorem varsOf_snoc (pre : List (Nat × T)) (x : Nat × T) : varsOf (pre ++ [x]) = varStep (varsOf pre) x := by simp [varsOf]
theorem varStep_length (acc : List Int) (x : Nat × T) : (varStep acc x).length ≤ acc.length + 1 := by
  unfold varStep; split
  · split
    · omega
    · simp
  · omega

theorem KeptO.alloc {n₀ B : Nat} {own : TypeId → Bool} {X Y : World} (h : KeptO n₀ B own X Y) (hn : n₀ ≤ X.heap.size) (o : Obj) : KeptO n₀ B own X (Y.alloc o) :=
  ⟨h.1.alloc (Nat.le_trans hn h.1.size) o, fun b hb hl ho => (Below.heap_alloc _ _ _ (Nat.lt_of_lt_of_le hl h.1.size)).trans (h.2 b hb hl ho)⟩
theorem KeptO.grown {n₀ B : Nat} {own : TypeId → Bool} {X Y Z : World} {row : Option Nat} (h : KeptO n₀ B own X Y) (hg : Y.grownBy Z row) (hn : n₀ ≤ Y.heap.size)
    (hr : ∀ k, row = some k → n₀ ≤ k ∧ (k < B ∨ ∃ cs e fz, X.heap[k]? = some (Obj.cells cs e fz) ∧ own e = false)) : KeptO n₀ B own X Z :=
  ⟨h.1.grown hg hn (fun k e => (hr k e).1), fun b hb hl ho => (hg.block b (Nat.lt_of_lt_of_le hl h.1.size) (fun e => by
    rcases (hr b e.symm).2 with h1 | ⟨cs, e', fz, h1, h2⟩
    · omega
    · rw [ho cs e' fz h1] at h2; cases h2)).trans (h.2 b hb hl ho)⟩
theorem KeptO.setCell {n₀ B : Nat} {own : TypeId → Bool} {X Y : World} (h : KeptO n₀ B own X Y) {p : Addr} (hp : n₀ ≤ p.block) (hq : p.block < B) (u : Value) : KeptO n₀ B own X (Y.setCell p u) :=
  ⟨h.1.setCell hp u, fun b hb hl ho => (Below.heap_setCell _ _ _ _ (by omega)).trans (h.2 b hb hl ho)⟩

theorem has_ints (zs : List Int) (z : Int) : Maps.has (Maps.setOf (.agg [] : DataW Unit) (zs.map (Lit.int .i64))) (Lit.int .i64 z) = zs.contains z := by
  rw [Maps.has_setOf _ _ _ (by intro x hx; obtain ⟨y, _, rfl⟩ := List.mem_map.1 hx; trivial), List.any_map, List.contains_eq_any_beq]
  congr 1
  funext y
  rw [Bool.eq_iff_iff]
  simp [Lit.sameKey]
  exact eq_comm

/-- A slice of ints in memory. -/
def IsInts (w : World) (v : Value) (zs : List Int) : Prop :=
  (v = .slice none 0 0 ∧ zs = []) ∨ ∃ g cap, v = .slice (some ⟨g, 0, none⟩) zs.length cap ∧ g < w.heap.size ∧ zs.length ≤ cap ∧ cap ≤ maxLen ∧ ∀ (j : Nat) (z : Int), zs[j]? = some z → w.cell? ⟨g, j, none⟩ = some (.int .i64 z)
theorem IsInts.below {w w' : World} {v : Value} {zs : List Int} (h : IsInts w v zs) (hb : Below w.heap.size w w') : IsInts w' v zs := by
  rcases h with h | ⟨g, cap, h1, h2, h3, h4, h5⟩
  · exact .inl h
  · exact .inr ⟨g, cap, h1, Nat.lt_of_lt_of_le h2 hb.size, h3, h4, fun j z hz => (hb.cell (p := ⟨g, j, none⟩) h2).trans (h5 j z hz)⟩
def varsPost (t : T) (w : World) (e : Ending) (w' : World) : Prop := ∃ v, e = .returned v ∧ IsInts w' v (varsOf (T.subs 1 t)) ∧ Below w.heap.size w w'

theorem info3 : (Tryz.prog.info? 3).map (fun i => (i.zero, i.size, i.bytes)) = some (some (.int .i64 0), 1, 8) := by kernel_rfl

theorem row_not_map {W : World} {H : Type} {P : Program} {k : TypeId} {R : Value → Option (DataW H × List MemPlace)} {b n : Nat} {D : DataW H} (hm : W.ownsMap P k R b n D) {base : Nat} {e : TypeId} {size m : Nat} {v : Value} {xs : List Value} (hr : W.ownsRow base e size v m xs) : v.ownBlock = none ∨ v.ownBlock ≠ some b := by
  obtain ⟨es, clock, hb, _⟩ := hm
  rcases hr.2 with ⟨rfl, _⟩ | ⟨g, cap, cur, rfl, _, hh, _⟩
  · exact .inl rfl
  · refine .inr fun h => ?_
    obtain rfl : g = b := by simpa [Value.ownBlock] using h
    rw [hb] at hh; cases hh

end Go.Proofs.YtleohdddaadbeaaGreat
