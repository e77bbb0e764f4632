/- Contract of the program's Check of substitutions. -/
import Derived.Test.YtfkaecjdncjggaaSb
namespace Go.Proofs.Ytfkaecjdncjggaa
set_option linter.unusedVariables false
set_option linter.unusedSimpArgs false
open Go.RowKit

def CkI (s : Sb) (w : World) (l i : Value) (wr : World) : Prop := ∃ (k : Nat) (z : Int), k ≤ s.length ∧ i = .int .i64 k ∧ l = .int .i64 z ∧ 0 ≤ z ∧ z ≤ 256 ∧ rightS 0 s = rightS z (s.drop k) ∧ Below w.heap.size w wr
def errS (s : Sb) : Int := if rightS 0 s then 0 else 1

set_option maxRecDepth 100000 in
set_option maxHeartbeats 1000000 in
theorem sCheck_any (s : Sb) (hsz : ∀ x ∈ s, x.2.size ≤ 1000000) (n₀ : Nat) (a : Option Addr) (c : Nat) (w : World) (hn : n₀ ≤ w.heap.size) (hS : IsBs n₀ w s a c) :
    Calls Try.prog 19 #[.slice a s.length c] w fun e w' => e = .returned (.int .i64 (errS s)) ∧ Below w.heap.size w w' := by
  have hl : s.length ≤ c ∧ c ≤ maxLen := ⟨hS.1, hS.2.1⟩
  unfold maxLen at hl
  obtain ⟨hl1, hl2⟩ := hl
  have HS := Lib.hid hS
  have HZ := Lib.hid hsz
  clear hS hsz
  go_enter Try.func19, Try.ntmps19
  go_wp2
  go_loopw [3, 8] (fun l i wr => CkI s w l i wr) (fun _ i _ => s.length - (intOf i).toNat)
  case atStart => exact ⟨0, 0, Nat.zero_le _, rfl, rfl, by omega, by omega, rfl, Below.refl _ _⟩
  case round =>
    obtain ⟨k, z, hk, rfl, rfl, hz0, hz1, hrt, hB⟩ := hrel
    have HR := Lib.hid hrt
    have HB := Lib.hid hB
    have hbz := hB.size
    clear hrt hB
    by_cases hlt : k < s.length
    · obtain ⟨b, o, x, t, a', c', rfl, hbn, hsk, hxw, htw, hc0, hc1, hc2, hA'⟩ := (HS.out.below (HB.out.mono hn)).elem (i := k) hlt
      have hk0 : (0 : Int) ≤ (k : Int) := Int.natCast_nonneg _
      have hk1 : (k : Int) < (s.length : Int) := by omega
      have HSK := Lib.hid (rightS_step (l := z) hsk)
      have hts : t.size ≤ 1000000 := HZ.out (x, t) (List.mem_of_getElem? hsk)
      have HTW := Lib.hid htw
      obtain ⟨hx1, hx2⟩ := wf_low hxw
      have hbw : b < wr.heap.size := by omega
      obtain ⟨w2, hw2⟩ : ∃ w2, wr.alloc (.cells #[.int .i64 x, .int .i64 t.head, .slice a' t.args.length c'] 44) = w2 := ⟨_, rfl⟩
      have hb2 : Below wr.heap.size wr w2 := by rw [← hw2]; exact (Below.refl _ _).alloc (Nat.le_refl _) _
      have L2 := Lib.hid (show ∀ W, Below w2.heap.size w2 W → W.cell? ⟨wr.heap.size, 0, none⟩ = some (.int .i64 x) ∧ W.cell? ⟨wr.heap.size, 1, none⟩ = some (.int .i64 t.head) ∧ W.cell? ⟨wr.heap.size, 2, none⟩ = some (.slice a' t.args.length c') from fun W hW =>
        ⟨(hW.cell (p := ⟨wr.heap.size, 0, none⟩) (by rw [← hw2]; simp)).trans (by rw [← hw2]; simp [go_sem]), (hW.cell (p := ⟨wr.heap.size, 1, none⟩) (by rw [← hw2]; simp)).trans (by rw [← hw2]; simp [go_sem]), (hW.cell (p := ⟨wr.heap.size, 2, none⟩) (by rw [← hw2]; simp)).trans (by rw [← hw2]; simp [go_sem])⟩)
      have HB2 := Lib.hid (HB.out.trans (hb2.mono hbz))
      have hAw := hA'.below (hb2.mono (by omega))
      have HA' := Lib.hid (show IsArgs w2.heap.size w2 t.args a' c' from hAw.mono (by have := hb2.size; omega))
      clear hsk htw hxw hA' hAw hb2
      by_cases q1 : x < z
      · have hd : errS s = 1 := by unfold errS; rw [HR.out, HSK.out, decide_eq_false (show ¬ z ≤ x from by omega)]; simp
        have HF := Lib.hid (show ∀ o, Below w.heap.size w (wr.alloc o) from fun o => HB.out.alloc hbz _)
        clear hw2 L2
        go_wp2
        go_ret
        exact ⟨by first | (rw [hd]; rfl) | rfl, HF.out _⟩
      by_cases q2 : 255 < x
      · have hd : errS s = 1 := by unfold errS; rw [HR.out, HSK.out, decide_eq_false (show ¬ x ≤ 255 from by omega)]; simp
        have HF := Lib.hid (show ∀ o, Below w.heap.size w (wr.alloc o) from fun o => HB.out.alloc hbz _)
        clear hw2 L2
        go_wp2
        go_ret
        exact ⟨by first | (rw [hd]; rfl) | rfl, HF.out _⟩
      obtain ⟨d0, d1, d2⟩ := L2.out w2 (Below.refl _ _)
      go_wp2_with fail
      clear hw2 hc0 hc1 hc2 d0 d1 d2
      refine (check_any t hts w2.heap.size a' c' w2 (Nat.le_refl _) HTW.out HA'.out).mono ?_
      rintro e w3 ⟨rfl, hb3⟩
      have HB3 := Lib.hid (HB2.out.trans (hb3.mono HB2.out.size))
      obtain ⟨d0, d1, d2⟩ := L2.out w3 hb3
      by_cases q3 : t.check = 0
      · rw [q3]
        go_wp2_with fail
        clear d0 d1 d2
        refine (sIsVar_any t.head a' t.args.length c' x w3 hx1 hx2).mono ?_
        rintro e w4 ⟨rfl, hb4⟩
        have HB4 := Lib.hid (HB3.out.trans (hb4.mono HB3.out.size))
        obtain ⟨d0, d1, d2⟩ := L2.out w4 (hb3.trans (hb4.mono hb3.size))
        clear hb3 hb4
        by_cases q4 : t.head = -1 - x
        · have hd : errS s = 1 := by unfold errS; rw [HR.out, HSK.out, decide_eq_false (show ¬ t.head ≠ -1 - x from fun h => h q4)]; simp
          rw [decide_eq_true q4]
          go_wp2
          go_ret
          exact ⟨by first | (rw [hd]; rfl) | rfl, HB4.out⟩
        · rw [decide_eq_false q4]
          go_wp2
          go_roundw
          case rel =>
            refine ⟨k + 1, x + 1, by omega, by go_num, rfl, by omega, by omega, ?_, HB4.out⟩
            rw [HR.out, HSK.out, decide_eq_true (show z ≤ x from by omega), decide_eq_true (show x ≤ 255 from by omega), decide_eq_true q3, decide_eq_true (show t.head ≠ -1 - x from q4)]
            simp
          case measure => simp [intOf]; omega
      · have hd : errS s = 1 := by unfold errS; rw [HR.out, HSK.out, decide_eq_false q3]; simp
        have hne : (t.check == 0) = false := by simpa using q3
        clear hb3
        go_wp2
        go_ret
        exact ⟨by first | (rw [hd]; rfl) | rfl, HB3.out⟩
    · have hd : errS s = 0 := by unfold errS; rw [HR.out, List.drop_of_length_le (by omega)]; rfl
      go_wp2
      go_ret
      exact ⟨by first | (rw [hd]; rfl) | rfl, HB.out⟩

end Go.Proofs.Ytfkaecjdncjggaa
