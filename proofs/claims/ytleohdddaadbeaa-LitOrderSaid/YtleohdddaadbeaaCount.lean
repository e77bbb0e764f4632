/- Contract of Few (layer 1). -/
import Derived.Test.YtleohdddaadbeaaQBd
namespace Go.Proofs.Ytleohdddaadbeaa
set_option linter.unusedVariables false
set_option linter.unusedSimpArgs false
open Go.RowKit

/-- Few(t): at most 500 parts. -/
theorem few_any (t : T) (n₀ : Nat) (a : Option Addr) (c : Nat) (w : World) (hn : n₀ ≤ w.heap.size) (hA : IsArgs n₀ w t.args a c) :
    Calls Try.prog 28 #[tm t.head a t.args.length c] w fun e w' => e = .returned (.bool (decide (t.size ≤ 500))) ∧ Below w.heap.size w w' := by
  have HA := Lib.hid hA
  clear hA
  have hC : ∀ W, Below w.heap.size w W → Calls Try.prog 29 #[tm t.head a t.args.length c, .int .i64 500] W fun e w' => e = .returned (.int .i64 (min t.size 501 : Nat)) ∧ Below W.heap.size W w' :=
    fun W hW => count_any t.size t (Nat.le_refl _) 500 n₀ a c W (Nat.le_refl _) (Nat.le_trans hn hW.size) (HA.out.below (hW.mono hn))
  have HC := Lib.hid hC
  clear hC
  go_enter Try.func28, Try.ntmps28
  go_wp2_with fail
  refine (HC.out _ ((Below.refl _ _).alloc (Nat.le_refl _) _)).mono ?_
  rintro e w2 ⟨rfl, hB2⟩
  have HB2 := Lib.hid hB2
  clear hB2
  go_wp2
  go_ret
  refine ⟨?_, ((Below.refl _ w).alloc (Nat.le_refl _) _).trans (HB2.out.mono (by simp))⟩
  by_cases h : t.size ≤ 500
  · simp; omega
  · simp; omega

end Go.Proofs.Ytleohdddaadbeaa
