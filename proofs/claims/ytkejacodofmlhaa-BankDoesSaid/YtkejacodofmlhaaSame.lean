/- Contracts of Ints, and of the statement's example (awake). -/
import Derived.Test.YtkejacodofmlhaaSam0
namespace Go.Proofs.Ytkejacodofmlhaa
set_option linter.unusedVariables false
set_option linter.unusedSimpArgs false
open Go.RowKit
/-- Two rows of numbers. -/
theorem ints_same (u v : Value) (zs : List Int) (w : World) (hne : zs ≠ []) (hu : IsInts w u zs) (hv : IsInts w v zs) :
    Calls Try.prog 24 #[u, v] w fun e w' => e = .returned (.bool true) ∧ Below w.heap.size w w' := by
  rcases hu with ⟨_, h⟩ | ⟨g, cap, rfl, hg, hl, hm, hc⟩
  · exact absurd h hne
  rcases hv with ⟨_, h⟩ | ⟨g', cap', rfl, hg', hl', hm', hc'⟩
  · exact absurd h hne
  have HC := Lib.hid hc
  have HC' := Lib.hid hc'
  clear hc hc' hne
  unfold maxLen at hm hm'
  go_enter Try.func24, Try.ntmps24
  go_wp2
  go_loopw [5] (fun i wr => ∃ k : Nat, k ≤ zs.length ∧ i = .int .i64 k ∧ ∃ n, wr = w.drewN n) (fun i _ => zs.length - (intOf i).toNat)
  case atStart => exact ⟨0, Nat.zero_le _, rfl, 0, rfl⟩
  case round =>
    obtain ⟨k, hk, rfl, n, rfl⟩ := hrel
    by_cases hlt : k < zs.length
    · have h1 : w.cell? ⟨g, k, none⟩ = some (.int .i64 zs[k]) := HC.out k _ (List.getElem?_eq_getElem hlt)
      have h2 : w.cell? ⟨g', k, none⟩ = some (.int .i64 zs[k]) := HC'.out k _ (List.getElem?_eq_getElem hlt)
      go_wp2
      go_quiet (fail)
      go_wp2
      exact ⟨⟨k + 1, by omega, by go_num, _, rfl⟩, by simp [intOf]; omega⟩
    · go_wp2
      go_ret
      exact ⟨rfl, below_drewN _ _ _⟩

/-! ### The statements' example -/
def T0 : T := .node 4 [.node (-2) [], .node 3 [.node (-1) []]]

theorem awake_mem {w2 w3 w4 : World} (b3 : Below (w2.alloc (.cells #[.int .i64 (-1), .slice none 0 0] 24)).heap.size (w2.alloc (.cells #[.int .i64 (-1), .slice none 0 0] 24)) w3)
    (b4 : Below (w3.alloc (.cells #[.int .i64 (-2), .slice none 0 0, .int .i64 3, .slice (some ⟨w2.heap.size, 0, none⟩) 1 1] 24)).heap.size (w3.alloc (.cells #[.int .i64 (-2), .slice none 0 0, .int .i64 3, .slice (some ⟨w2.heap.size, 0, none⟩) 1 1] 24)) w4) :
    IsArgs w4.heap.size w4 T0.args (some ⟨w3.heap.size, 0, none⟩) 2 := by
  have s3 : w2.heap.size + 1 ≤ w3.heap.size := by have := b3.size; simpa using this
  have s4 : w3.heap.size + 1 ≤ w4.heap.size := by have := b4.size; simpa using this
  have c2 : ∀ i, w4.cell? ⟨w3.heap.size, i, none⟩ = (#[Value.int .i64 (-2), .slice none 0 0, .int .i64 3, .slice (some ⟨w2.heap.size, 0, none⟩) 1 1] : Array Value)[i]? := fun i => (b4.cell (p := ⟨w3.heap.size, i, none⟩) (by simp)).trans (by simp)
  have c1 : ∀ i, w4.cell? ⟨w2.heap.size, i, none⟩ = (#[Value.int .i64 (-1), .slice none 0 0] : Array Value)[i]? := fun i =>
    (b4.cell (p := ⟨w2.heap.size, i, none⟩) (by simp; omega)).trans ((World.cell?_of_block (a := ⟨w2.heap.size, i, none⟩) (Below.heap_alloc _ _ _ (by simp; omega))).trans ((b3.cell (p := ⟨w2.heap.size, i, none⟩) (by simp)).trans (by simp)))
  refine ⟨by simp [T0, T.args], by simp [maxLen], .inr ⟨_, _, rfl, by omega, ?_⟩⟩
  simp only [T0, T.args, IsRow, IsT, and_true]
  refine ⟨⟨by decide, by rw [c2]; rfl, none, 0, by rw [c2]; rfl, by simp, by simp [maxLen], .inl trivial⟩, ⟨by decide, by rw [c2]; rfl, some ⟨w2.heap.size, 0, none⟩, 1, by rw [c2]; rfl, by simp, by simp [maxLen], .inr ⟨_, _, rfl, by omega, ?_⟩⟩⟩
  exact ⟨by decide, by rw [c1]; rfl, none, 0, by rw [c1]; rfl, by simp, by simp [maxLen], .inl trivial⟩

end Go.Proofs.Ytkejacodofmlhaa
