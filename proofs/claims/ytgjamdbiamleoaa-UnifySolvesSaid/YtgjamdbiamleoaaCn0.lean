/- Contracts of Count and Few. -/
import Derived.Test.YtgjamdbiamleoaaLeaf
namespace Go.Proofs.Ytgjamdbiamleoaa
set_option linter.unusedVariables false
set_option linter.unusedSimpArgs false
open Go.RowKit

/-- Count(t, most): the size, as far as one above most. -/
theorem count_any : ∀ (N : Nat) (t : T), t.size ≤ N → ∀ (most : Nat) (n₀ : Nat) (a : Option Addr) (c : Nat) (w : World), most ≤ 500 → n₀ ≤ w.heap.size → IsArgs n₀ w t.args a c →
    Calls Try.prog 46 #[tm t.head a t.args.length c, .int .i64 most] w fun e w' => e = .returned (.int .i64 (min t.size (most + 1) : Nat)) ∧ Below w.heap.size w w' := by
  intro N
  induction N with
  | zero => intro t ht; have := T.size_pos t; omega
  | succ N ih =>
    intro t ht most n₀ a c w hm hn hA
    have IH := Lib.hid ih
    clear ih
    have hsz := T.size_eq t
    have HS := Lib.hid hsz
    clear hsz
    have hlc : t.args.length ≤ c ∧ c ≤ maxLen := ⟨hA.1, hA.2.1⟩
    unfold maxLen at hlc
    obtain ⟨hl1, hl2⟩ := hlc
    generalize hL : t.args.length = len at *
    have HL := Lib.hid hL
    clear hL
    have HA := Lib.hid hA
    clear hA
    go_enter Try.func46, Try.ntmps46
    go_wp2
    go_loopw [5, 6] (fun n i wr => ∃ k : Nat, k ≤ len ∧ i = .int .i64 k ∧ n = .int .i64 (min (1 + T.sizes (t.args.take k)) (most + 1) : Nat) ∧ Below (w.heap.size + 1) (w.alloc (tmCells t.head a len c)) wr)
      (fun _ i _ => len - (intOf i).toNat)
    case atStart => exact ⟨0, Nat.zero_le _, rfl, by simp [T.sizes], Below.refl _ _⟩
    case round =>
      obtain ⟨k, hk, rfl, rfl, hB⟩ := hrel
      generalize hm' : min (1 + T.sizes (t.args.take k)) (most + 1) = m at *
      have hmb : m ≤ 501 := by omega
      have HM := Lib.hid hm'
      clear hm'
      have hbox : wr.cell? ⟨w.heap.size, 1, none⟩ = some (.slice a len c) := (hB.cell (p := ⟨w.heap.size, 1, none⟩) (by simp)).trans (by simp [go_sem])
      have HB := Lib.hid hB
      clear hB
      by_cases hlt : k < len
      · by_cases hle : m ≤ most
        · have hw : Below n₀ w wr := ((Below.refl n₀ w).alloc hn _).trans (HB.out.mono (by omega))
          obtain ⟨b, o, s, a', c', rfl, hbn, hs, hwf, hc1, hc2, hA'⟩ := (HA.out.below hw).elem (i := k) (by rw [HL.out]; exact hlt)
          have hs1 : wr.heap.size ≥ w.heap.size + 1 := by have := HB.out.size; simpa using this
          have hsN : s.size ≤ N := by have := T.size_lt_of_mem hs; have := HS.out; omega
          have HSS := Lib.hid hs
          have HA' := Lib.hid hA'
          clear hs hA' hw hwf
          go_wp2_with fail
          rw [show ((most : Int) - (m : Int)) = ((most - m : Nat) : Int) from by omega]
          refine (IH.out s hsN (most - m) n₀ a' c' wr (by omega) (by omega) HA'.out).mono ?_
          rintro e w2 ⟨rfl, hB2⟩
          generalize hr : min s.size (most - m + 1) = r
          have hrb : r ≤ 501 := by omega
          have HR := Lib.hid hr
          have HB2 := Lib.hid hB2
          clear hr hB2
          go_wp2
          go_roundw
          case rel =>
            refine ⟨k + 1, by omega, by go_num, ?_, HB.out.trans (HB2.out.mono (by omega))⟩
            have h1 := HM.out
            have h2 := HR.out
            have h3 := T.sizes_take HSS.out
            rw [show ((m : Int) + (r : Int)) = ((m + r : Nat) : Int) from by omega]
            exact congrArg (fun x : Nat => Value.int .i64 (x : Int)) (by omega)
          case measure => simp [intOf]; omega
        · go_wp2
          go_ret
          refine ⟨?_, (((Below.refl w.heap.size w).alloc (Nat.le_refl _) _).trans (HB.out.mono (by omega)))⟩
          have h1 := HM.out
          have h2 := HS.out
          have h3 := T.sizes_append (t.args.take k) (t.args.drop k)
          rw [List.take_append_drop] at h3
          exact congrArg (fun x : Nat => Ending.returned (.int .i64 (x : Int))) (by omega)
      · go_wp2
        go_ret
        refine ⟨?_, (((Below.refl w.heap.size w).alloc (Nat.le_refl _) _).trans (HB.out.mono (by omega)))⟩
        have h1 := HM.out
        have h2 := HS.out
        rw [List.take_of_length_le (by have := HL.out; omega)] at h1
        exact congrArg (fun x : Nat => Ending.returned (.int .i64 (x : Int))) (by omega)

end Go.Proofs.Ytgjamdbiamleoaa
