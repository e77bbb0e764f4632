/- Contracts of Same, Ints, and of the statement's example (awake). -/
import Derived.Test.YtdigccbffphilaaUntil
import Derived.Test.YtdigccbffphilaaVars
namespace Go.Proofs.Ytdigccbffphilaa
set_option linter.unusedVariables false
set_option linter.unusedSimpArgs false
open Go.RowKit

def sameB (x y : T) : Bool := (resume [([x], [y])]).isNone
theorem sameB_iff (x y : T) : sameB x y = true ↔ x = y := by rw [sameB, Option.isNone_iff_eq_none, resume_none_iff]

set_option maxRecDepth 100000 in
set_option maxHeartbeats 1000000 in
theorem same_any (x y : T) (hx : x.size ≤ 1000000) (n₀ : Nat) (a : Option Addr) (c : Nat) (a' : Option Addr) (c' : Nat) (w : World) (hn : n₀ ≤ w.heap.size) (hxw : (Lit.int .i64 x.head).wf = true) (hyw : (Lit.int .i64 y.head).wf = true) (hA : IsArgs n₀ w x.args a c) (hB : IsArgs n₀ w y.args a' c') :
    Calls Try.prog 35 #[tm x.head a x.args.length c, tm y.head a' y.args.length c'] w fun e w' => e = .returned (.bool (sameB x y)) ∧ Below w.heap.size w w' := by
  have HA := Lib.hid (hA.mono hn)
  have HB := Lib.hid (hB.mono hn)
  clear hA hB hn n₀
  go_enter Try.func35, Try.ntmps35
  go_wp2_with fail
  have hb : Below w.heap.size w ((w.alloc (tmCells x.head a x.args.length c)).alloc (tmCells y.head a' y.args.length c')) := ((Below.refl _ w).alloc (Nat.le_refl _) _).alloc (by simp) _
  refine (until_any x y hx w.heap.size a c a' c' _ (by simp; omega) hxw hyw (HA.out.below hb) (HB.out.below hb)).mono ?_
  rintro e w2 ⟨v, fs, vs, rfl, hO, _, hr, hb2⟩
  have HB2 := Lib.hid (hb.trans (hb2.mono (by simp; omega)))
  have HR := Lib.hid hr
  clear hb hb2 hr
  have hv : ∃ a1 c1, v = .slice a1 fs.length c1 := by
    rcases hO.2 with ⟨h, h0⟩ | ⟨g, cap, cur, h, _⟩
    · exact ⟨_, _, by rw [h, h0]⟩
    · exact ⟨_, _, h⟩
  obtain ⟨a1, c1, rfl⟩ := hv
  clear hO
  go_wp2
  go_ret
  refine ⟨?_, HB2.out⟩
  have h := HR.out
  cases fs with
  | nil => simp [sameB, h]
  | cons f fs =>
    rw [if_neg (by simp)] at h
    rw [sameB, h]
    simp
    omega

theorem below_drewN (B : Nat) (w : World) (n : Nat) : Below B w (w.drewN n) := by
  induction n with
  | zero => exact Below.refl _ _
  | succ n ih => exact ih.trans ⟨rfl, rfl, rfl, Nat.le_refl _, fun _ _ => rfl⟩

/-- Two rows of numbers. -/
theorem ints_same (u v : Value) (zs : List Int) (w : World) (hne : zs ≠ []) (hu : IsInts w u zs) (hv : IsInts w v zs) :
    Calls Try.prog 43 #[u, v] w fun e w' => e = .returned (.bool true) ∧ Below w.heap.size w w' := by
  rcases hu with ⟨_, h⟩ | ⟨g, cap, rfl, hg, hl, hm, hc⟩
  · exact absurd h hne
  rcases hv with ⟨_, h⟩ | ⟨g', cap', rfl, hg', hl', hm', hc'⟩
  · exact absurd h hne
  have HC := Lib.hid hc
  have HC' := Lib.hid hc'
  clear hc hc' hne
  unfold maxLen at hm hm'
  go_enter Try.func43, Try.ntmps43
  go_wp2
  go_loopw [5] (fun i wr => ∃ k : Nat, k ≤ zs.length ∧ i = .int .i64 k ∧ ∃ n, wr = w.drewN n) (fun i _ => zs.length - (intOf i).toNat)
  case atStart => exact ⟨0, Nat.zero_le _, rfl, 0, rfl⟩
  case round =>
    obtain ⟨k, hk, rfl, n, rfl⟩ := hrel
    by_cases hlt : k < zs.length
    · have h1 : w.cell? ⟨g, k, none⟩ = some (.int .i64 zs[k]) := HC.out k _ (List.getElem?_eq_getElem hlt)
      have h2 : w.cell? ⟨g', k, none⟩ = some (.int .i64 zs[k]) := HC'.out k _ (List.getElem?_eq_getElem hlt)
      go_wp2
      go_quiet (fail)
      go_wp2
      exact ⟨⟨k + 1, by omega, by go_num, _, rfl⟩, by simp [intOf]; omega⟩
    · go_wp2
      go_ret
      exact ⟨rfl, below_drewN _ _ _⟩

/-! ### The statements' example -/
def T0 : T := .node 4 [.node (-2) [], .node 3 [.node (-1) []]]

theorem awake_mem {w2 w3 w4 : World} (b3 : Below (w2.alloc (.cells #[.int .i64 (-1), .slice none 0 0] 24)).heap.size (w2.alloc (.cells #[.int .i64 (-1), .slice none 0 0] 24)) w3)
    (b4 : Below (w3.alloc (.cells #[.int .i64 (-2), .slice none 0 0, .int .i64 3, .slice (some ⟨w2.heap.size, 0, none⟩) 1 1] 24)).heap.size (w3.alloc (.cells #[.int .i64 (-2), .slice none 0 0, .int .i64 3, .slice (some ⟨w2.heap.size, 0, none⟩) 1 1] 24)) w4) :
    IsArgs w4.heap.size w4 T0.args (some ⟨w3.heap.size, 0, none⟩) 2 := by
  have s3 : w2.heap.size + 1 ≤ w3.heap.size := by have := b3.size; simpa using this
  have s4 : w3.heap.size + 1 ≤ w4.heap.size := by have := b4.size; simpa using this
  have c2 : ∀ i, w4.cell? ⟨w3.heap.size, i, none⟩ = (#[Value.int .i64 (-2), .slice none 0 0, .int .i64 3, .slice (some ⟨w2.heap.size, 0, none⟩) 1 1] : Array Value)[i]? := fun i => (b4.cell (p := ⟨w3.heap.size, i, none⟩) (by simp)).trans (by simp)
  have c1 : ∀ i, w4.cell? ⟨w2.heap.size, i, none⟩ = (#[Value.int .i64 (-1), .slice none 0 0] : Array Value)[i]? := fun i =>
    (b4.cell (p := ⟨w2.heap.size, i, none⟩) (by simp; omega)).trans ((World.cell?_of_block (a := ⟨w2.heap.size, i, none⟩) (Below.heap_alloc _ _ _ (by simp; omega))).trans ((b3.cell (p := ⟨w2.heap.size, i, none⟩) (by simp)).trans (by simp)))
  refine ⟨by simp [T0, T.args], by simp [maxLen], .inr ⟨_, _, rfl, by omega, ?_⟩⟩
  simp only [T0, T.args, IsRow, IsT, and_true]
  refine ⟨⟨by decide, by rw [c2]; rfl, none, 0, by rw [c2]; rfl, by simp, by simp [maxLen], .inl trivial⟩, ⟨by decide, by rw [c2]; rfl, some ⟨w2.heap.size, 0, none⟩, 1, by rw [c2]; rfl, by simp, by simp [maxLen], .inr ⟨_, _, rfl, by omega, ?_⟩⟩⟩
  exact ⟨by decide, by rw [c1]; rfl, none, 0, by rw [c1]; rfl, by simp, by simp [maxLen], .inl trivial⟩

end Go.Proofs.Ytdigccbffphilaa
