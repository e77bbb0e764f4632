/- The library's sort of numbers, at this program: a row of one's own is sorted in place. -/
import Derived.Test.YtfkaecjdncjggaaLeaf
import Derived.Test.YtfkaecjdncjggaaTp
import Derived.Shelf.Sort.Plain
import Derived.Shelf.Lay
namespace Go.Proofs
open Go.Shelf
shelf_lay Lays.n189 Nm 189 at Try as Try.lays189
end Go.Proofs
namespace Go.Proofs.Ytfkaecjdncjggaa
set_option linter.unusedVariables false
set_option linter.unusedSimpArgs false
open Go.RowKit Go.Sort

def sorted (zs : List Int) : List Int := zs.mergeSort fun x y => decide (x ≤ y)
theorem sorted_length (zs : List Int) : (sorted zs).length = zs.length := by simp [sorted]
theorem putCells_take {zs : List Int} {cur : Array Value} (h : zs.length ≤ cur.size) : (putCells (Value.int .i64) 0 zs.toArray cur).toList.take zs.length = zs.map (Value.int .i64) := by
  apply List.ext_getElem?
  intro j
  rw [List.getElem?_take, List.getElem?_map]
  by_cases hj : j < zs.length
  · rw [if_pos hj, List.getElem?_eq_getElem hj]
    unfold putCells
    rw [Array.getElem?_toList, Array.getElem?_mapIdx, Array.getElem?_eq_getElem (by omega)]
    simp [hj]
  · rw [if_neg hj, List.getElem?_eq_none (by omega)]
    rfl

theorem sort_any (base : Nat) (zs : List Int) (g cap : Nat) (w : World) (hl : zs.length ≤ 1000000) (hown : w.ownsRow base 3 1 (.slice (some ⟨g, 0, none⟩) zs.length cap) zs.length (zs.map (Value.int .i64))) :
    Calls Try.prog 51 #[.slice (some ⟨g, 0, none⟩) zs.length cap] w fun e w' =>
      e = .returned (.tuple #[]) ∧ w'.ownsRow base 3 1 (.slice (some ⟨g, 0, none⟩) zs.length cap) zs.length ((sorted zs).map (Value.int .i64)) ∧ w.grownBy w' (some g) := by
  rcases hown.2 with ⟨h, _⟩ | ⟨g', cap', cur, hv, hb, hh, hn, hc, hs, ht⟩
  · cases h
  simp only [Value.slice.injEq, Option.some.injEq, Addr.mk.injEq] at hv
  obtain ⟨⟨rfl, _⟩, _, rfl⟩ := hv
  have hgl : g < w.heap.size := (Array.getElem?_eq_some_iff.1 hh).1
  rw [Nat.mul_one] at ht hs
  have hH : Holds (Value.int .i64) w g 0 zs.toArray := fun j hj => by
    simp only [List.size_toArray] at hj
    refine ⟨?_, by simp [World.frozen?, hh]⟩
    have h1 : cur[j]? = some (.int .i64 zs[j]) := by
      have h2 := congrArg (fun l => l[j]?) ht
      simp only [List.getElem?_take, if_pos hj, List.getElem?_map, List.getElem?_eq_getElem hj, Option.map_some, Array.getElem?_toList] at h2
      exact h2
    simp [World.cell?, hh, h1, hj]
  refine (Any.slices_Sort_int Try.lays189 g 0 cap zs w hH hgl (by omega)).mono ?_
  rintro e w' ⟨rfl, n, os, rfl⟩
  have hst : ∀ i, i < w.heap.size → i ≠ g → (grow (putRow (Value.int .i64) (Sort.ahead w n) g 0 (sorted zs).toArray) os).heap[i]? = w.heap[i]? := fun i hi hne => by
    simp only [grow, putRow, mapBlock, Sort.ahead]
    rw [Array.getElem?_append_left (by simpa using hi), Array.getElem?_modify, if_neg (fun e => hne e.symm)]
  have hsg : (grow (putRow (Value.int .i64) (Sort.ahead w n) g 0 (sorted zs).toArray) os).heap[g]? = some (.cells (putCells (Value.int .i64) 0 (sorted zs).toArray cur) 3 (0, 0)) := by
    simp only [grow, putRow, mapBlock, Sort.ahead]
    rw [Array.getElem?_append_left (by simpa using hgl), Array.getElem?_modify, if_pos rfl, hh]
    rfl
  refine ⟨rfl, ⟨by simp [sorted_length], .inr ⟨g, cap, _, rfl, hb, hsg, hn, hc, by simp [putCells, hs], ?_⟩⟩, ⟨rfl, rfl, rfl, by simp [grow, putRow, mapBlock, Sort.ahead], fun i hi hne => hst i hi (fun e => hne (by rw [e]))⟩⟩
  rw [Nat.mul_one, ← sorted_length zs]
  exact putCells_take (by rw [sorted_length]; omega)

end Go.Proofs.Ytfkaecjdncjggaa
