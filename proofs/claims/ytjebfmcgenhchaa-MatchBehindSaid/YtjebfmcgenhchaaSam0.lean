/- Contract of Same. -/
import Derived.Test.YtjebfmcgenhchaaUntil
import Derived.Test.YtjebfmcgenhchaaVars
namespace Go.Proofs.Ytjebfmcgenhchaa
set_option linter.unusedVariables false
set_option linter.unusedSimpArgs false
open Go.RowKit

def sameB (x y : T) : Bool := (resume [([x], [y])]).isNone
theorem sameB_iff (x y : T) : sameB x y = true ↔ x = y := by rw [sameB, Option.isNone_iff_eq_none, resume_none_iff]

set_option maxRecDepth 100000 in
set_option maxHeartbeats 1000000 in
theorem same_any (x y : T) (hx : x.size ≤ 1000000) (n₀ : Nat) (a : Option Addr) (c : Nat) (a' : Option Addr) (c' : Nat) (w : World) (hn : n₀ ≤ w.heap.size) (hxw : (Lit.int .i64 x.head).wf = true) (hyw : (Lit.int .i64 y.head).wf = true) (hA : IsArgs n₀ w x.args a c) (hB : IsArgs n₀ w y.args a' c') :
    Calls Try.prog 41 #[tm x.head a x.args.length c, tm y.head a' y.args.length c'] w fun e w' => e = .returned (.bool (sameB x y)) ∧ Below w.heap.size w w' := by
  have HA := Lib.hid (hA.mono hn)
  have HB := Lib.hid (hB.mono hn)
  clear hA hB hn n₀
  go_enter Try.func41, Try.ntmps41
  go_wp2_with fail
  have hb : Below w.heap.size w ((w.alloc (tmCells x.head a x.args.length c)).alloc (tmCells y.head a' y.args.length c')) := ((Below.refl _ w).alloc (Nat.le_refl _) _).alloc (by simp) _
  refine (until_any x y hx w.heap.size a c a' c' _ (by simp; omega) hxw hyw (HA.out.below hb) (HB.out.below hb)).mono ?_
  rintro e w2 ⟨v, fs, vs, rfl, hO, _, hr, hb2⟩
  have HB2 := Lib.hid (hb.trans (hb2.mono (by simp; omega)))
  have HR := Lib.hid hr
  clear hb hb2 hr
  have hv : ∃ a1 c1, v = .slice a1 fs.length c1 := by
    rcases hO.2 with ⟨h, h0⟩ | ⟨g, cap, cur, h, _⟩
    · exact ⟨_, _, by rw [h, h0]⟩
    · exact ⟨_, _, h⟩
  obtain ⟨a1, c1, rfl⟩ := hv
  clear hO
  go_wp2
  go_ret
  refine ⟨?_, HB2.out⟩
  have h := HR.out
  cases fs with
  | nil => simp [sameB, h]
  | cons f fs =>
    rw [if_neg (by simp)] at h
    rw [sameB, h]
    simp
    omega

theorem below_drewN (B : Nat) (w : World) (n : Nat) : Below B w (w.drewN n) := by
  induction n with
  | zero => exact Below.refl _ _
  | succ n ih => exact ih.trans ⟨rfl, rfl, rfl, Nat.le_refl _, fun _ _ => rfl⟩

end Go.Proofs.Ytjebfmcgenhchaa
