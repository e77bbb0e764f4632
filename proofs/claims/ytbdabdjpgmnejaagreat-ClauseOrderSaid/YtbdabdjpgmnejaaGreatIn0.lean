/- In0: of Ints, the contract of the reference's Ints. -/
import Derived.Test.YtbdabdjpgmnejaaGreatQBf
import Derived.Test.YtbdabdjpgmnejaaGreatQBb
import Derived.Lib.QuietBelow
import Derived.Deep.QuietTactic
import Derived.BigQuiet
namespace Go.Proofs.YtbdabdjpgmnejaaGreat
set_option linter.unusedVariables false
set_option linter.unusedSimpArgs false
open Go.RowKit

theorem take_eq_all {α : Type} {zs ys : List α} (hl : zs.length = ys.length) (h : zs.take zs.length = ys.take zs.length) : zs = ys := by
  rwa [List.take_length, hl, List.take_length] at h
theorem take_succ_eq {α : Type} {zs ys : List α} {k : Nat} {x : α} (h : zs.take k = ys.take k) (hz : zs[k]? = some x) (hy : ys[k]? = some x) : zs.take (k + 1) = ys.take (k + 1) := by
  obtain ⟨h1, e1⟩ := List.getElem?_eq_some_iff.1 hz
  obtain ⟨h2, e2⟩ := List.getElem?_eq_some_iff.1 hy
  rw [List.take_succ_eq_append_getElem h1, List.take_succ_eq_append_getElem h2, h, e1, e2]

def IntsI (zs ys : List Int) (w : World) (i : Value) (wr : World) : Prop := ∃ k : Nat, k ≤ zs.length ∧ i = .int .i64 k ∧ zs.take k = ys.take k ∧ Below w.heap.size w wr

set_option maxHeartbeats 1000000 in
theorem ints_any (zs ys : List Int) (n₀ : Nat) (a : Option Addr) (c : Nat) (a' : Option Addr) (c' : Nat) (w : World) (hn : n₀ ≤ w.heap.size) (hZ : IsIs n₀ w zs a c) (hY : IsIs n₀ w ys a' c') :
    Calls Tryz.prog 19 #[.slice a zs.length c, .slice a' ys.length c'] w fun e w' => e = .returned (.bool (decide (zs = ys))) ∧ Below w.heap.size w w' := by
  have hz : zs.length ≤ c ∧ c ≤ maxLen := ⟨hZ.1, hZ.2.1⟩
  have hy : ys.length ≤ c' ∧ c' ≤ maxLen := ⟨hY.1, hY.2.1⟩
  unfold maxLen at hz hy
  obtain ⟨hz1, hz2⟩ := hz
  obtain ⟨hy1, hy2⟩ := hy
  have HZ := Lib.hid hZ
  have HY := Lib.hid hY
  clear hZ hY
  by_cases hl : zs.length = ys.length
  · have hl1 : ((zs.length : Int) != (ys.length : Int)) = false := by simp; omega
    have hl2 : (zs.length != ys.length) = false := by simp; omega
    have HL := Lib.hid hl
    clear hl
    go_enter Tryz.func19, Tryz.ntmps19
    go_wp2
    go_loopw [5] (fun i wr => IntsI zs ys w i wr) (fun i _ => zs.length - (intOf i).toNat)
    case atStart => exact ⟨0, Nat.zero_le _, rfl, rfl, Below.refl _ _⟩
    case round =>
      obtain ⟨k, hk, rfl, htk, hB⟩ := hrel
      have HTK := Lib.hid htk
      have HB := Lib.hid hB
      clear htk
      by_cases hlt : k < zs.length
      · obtain ⟨b, o, z, rfl, hb, hzk, hcz⟩ := (HZ.out.below (hB.mono hn)).elem hlt
        obtain ⟨b', o', y, rfl, hb', hyk, hcy⟩ := (HY.out.below (hB.mono hn)).elem (k := k) (by have := HL.out; omega)
        have HZK := Lib.hid hzk
        have HYK := Lib.hid hyk
        have hlt' : k < ys.length := by have := HL.out; omega
        clear hzk hyk hB
        by_cases e : z = y
        · subst e
          go_wp2
          go_quiet (fail)
          go_wp2
          go_roundw
          case rel => exact ⟨k + 1, by omega, by go_num, take_succ_eq HTK.out HZK.out HYK.out, HB.out.trans (⟨rfl, rfl, rfl, Nat.le_refl _, fun _ _ => rfl⟩)⟩
          case measure => simp [intOf]; omega
        · have e1 : (z != y) = true := by simpa using e
          go_wp2
          go_quiet (fail)
          go_wp2
          go_ret
          refine ⟨?_, HB.out.trans (⟨rfl, rfl, rfl, Nat.le_refl _, fun _ _ => rfl⟩)⟩
          rw [decide_eq_false (fun h => e (by have h1 := HZK.out; rw [h, HYK.out] at h1; exact (Option.some.inj h1).symm))]; rfl
      · obtain rfl : k = zs.length := by omega
        clear hB
        go_wp2
        go_ret
        refine ⟨?_, HB.out⟩
        rw [decide_eq_true (take_eq_all HL.out HTK.out)]; rfl
  · have hl1 : ((zs.length : Int) != (ys.length : Int)) = true := by simp; omega
    have hl2 : (zs.length != ys.length) = true := by simp; omega
    go_enter Tryz.func19, Tryz.ntmps19
    go_wp2
    go_ret
    refine ⟨?_, Below.refl _ _⟩
    rw [decide_eq_false (fun h => hl (by rw [h]))]; rfl


end Go.Proofs.YtbdabdjpgmnejaaGreat
