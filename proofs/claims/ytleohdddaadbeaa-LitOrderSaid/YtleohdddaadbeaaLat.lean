/- Lat: a term equal to itself, by the reference. -/
import Derived.Test.YtleohdddaadbeaaQBd
import Derived.Test.YtleohdddaadbeaaRef
import Derived.Test.YtleohdddaadbeaaOrd
namespace Go.Proofs.Ytleohdddaadbeaa
set_option linter.unusedVariables false
set_option linter.unusedSimpArgs false
open Go.RowKit

theorem sameAt_any (x y : T) (h : x = y) (hs : x.size ≤ 1000000000000) (n₀ : Nat) (a : Option Addr) (c : Nat) (a' : Option Addr) (c' : Nat) (w : World) (hn : n₀ ≤ w.heap.size) (hA : IsArgs n₀ w x.args a c) (hB : IsArgs n₀ w y.args a' c') :
    Calls Try.prog 44 #[tm x.head a x.args.length c, tm y.head a' y.args.length c'] w fun e w' => e = .returned (.bool true) ∧ Below w.heap.size w w' := by
  subst h
  refine (refSame_any x x hs hs n₀ a c a' c' w hn hA hB).mono fun e w' hh => ⟨?_, hh.2⟩
  rw [hh.1, T.cmp_self]; rfl


end Go.Proofs.Ytleohdddaadbeaa
