/- SOf: contract of the reference's Of. -/
import Derived.Test.YtgjamdbiamleoaaSO0
namespace Go.Proofs.Ytgjamdbiamleoaa
set_option linter.unusedVariables false
set_option linter.unusedSimpArgs false
open Go.RowKit

set_option maxRecDepth 100000 in
set_option maxHeartbeats 1000000 in
theorem refOf_any (s : Sb) (v : Int) (n₀ : Nat) (a : Option Addr) (c : Nat) (w : World) (hn : n₀ ≤ w.heap.size) (h1 : -9223372036854775808 ≤ v) (h2 : v ≤ 9223372036854775807) (hS : IsBs n₀ w s a c) :
    Calls Try.prog 100 #[.slice a s.length c, .int .i64 v] w (OfPost n₀ (ofS s v) w) := by
  have hl : s.length ≤ c ∧ c ≤ maxLen := ⟨hS.1, hS.2.1⟩
  unfold maxLen at hl
  obtain ⟨hl1, hl2⟩ := hl
  have HS := Lib.hid hS
  clear hS
  go_enter Try.func100, Try.ntmps100
  go_wp2
  obtain ⟨w1, hw1⟩ : ∃ w1, w.alloc (tmCells 0 none 0 0) = w1 := ⟨_, rfl⟩
  have hB1 : Below w.heap.size w w1 := by rw [← hw1]; exact (Below.refl _ w).alloc (Nat.le_refl _) _
  have hs1 : w1.heap.size = w.heap.size + 1 := by rw [← hw1]; simp
  have hres : ∀ W, Below (w.heap.size + 1) w1 W → W.cell? ⟨w.heap.size, 0, none⟩ = some (.int .i64 0) ∧ W.cell? ⟨w.heap.size, 1, none⟩ = some (.slice none 0 0) ∧ W.frozen? ⟨w.heap.size, 0, none⟩ = false ∧ W.frozen? ⟨w.heap.size, 1, none⟩ = false := fun W hW =>
    ⟨(hW.cell (p := ⟨w.heap.size, 0, none⟩) (by simp)).trans (by rw [← hw1]; simp [go_sem]), (hW.cell (p := ⟨w.heap.size, 1, none⟩) (by simp)).trans (by rw [← hw1]; simp [go_sem]), (hW.frozen (p := ⟨w.heap.size, 0, none⟩) (by simp)).trans (by rw [← hw1]; simp [go_sem]), (hW.frozen (p := ⟨w.heap.size, 1, none⟩) (by simp)).trans (by rw [← hw1]; simp [go_sem])⟩
  rw [hw1]
  have HRES := Lib.hid hres
  have HB1 := Lib.hid hB1
  have HS1 := Lib.hid hs1
  clear hres hB1 hs1 hw1
  go_loopw [5] (fun i wr => OfI s v w w1 i wr) (fun i _ => s.length - (intOf i).toNat)
  case atStart => exact ⟨0, Nat.zero_le _, rfl, rfl, Below.refl _ _⟩
  case round =>
    obtain ⟨k, hk, rfl, hof, hB⟩ := hrel
    obtain ⟨r0, r1, rf0, rf1⟩ := HRES.out wr hB
    have hz : w.heap.size + 1 ≤ wr.heap.size := by have := hB.size; have := HS1.out; omega
    have HO := Lib.hid hof
    have HB := Lib.hid hB
    have HW := Lib.hid (HB1.out.trans (hB.mono (by omega)))
    clear hof hB
    by_cases hlt : k < s.length
    · obtain ⟨b, o, x, t, a', c', rfl, hbn, hsk, hxw, htw, hc0, hc1, hc2, hA'⟩ := (HS.out.below (HW.out.mono hn)).elem (i := k) hlt
      have hk0 : (0 : Int) ≤ (k : Int) := Int.natCast_nonneg _
      have hk1 : (k : Int) < (s.length : Int) := by omega
      have HSK := Lib.hid (ofS_step v hsk)
      have HTW := Lib.hid htw
      have HA' := Lib.hid hA'
      have hbw : b < wr.heap.size := by omega
      have hzw : w.heap.size < wr.heap.size := by omega
      clear hsk htw hxw hA'
      by_cases hv : x = v
      · subst hv
        have hof : ofS s x = t := by rw [HO.out, HSK.out]; simp
        go_wp2
        refine bodyPost_ret (v := tm t.head a' t.args.length c') (by simp [results, Try.results100, go_sem, r0, r1, hzw]) rfl ?_
        first | rw [hof] | skip
        exact ⟨a', c', rfl, HTW.out, HA'.out.below (((Below.refl n₀ wr).setCell (p := ⟨w.heap.size, 0, none⟩) hn _).setCell (p := ⟨w.heap.size, 1, none⟩) hn _), ((HW.out.setCell (p := ⟨w.heap.size, 0, none⟩) (by simp) _).setCell (p := ⟨w.heap.size, 1, none⟩) (by simp) _)⟩
      · have hv1 : (x == v) = false := by simpa using hv
        go_wp2
        go_roundw
        case rel =>
          refine ⟨k + 1, by omega, by go_num, ?_, HB.out⟩
          rw [HO.out, HSK.out, if_neg hv]
        case measure => simp [intOf]; omega
    · have hof : ofS s v = vt v := by rw [HO.out, List.drop_of_length_le (by omega)]; rfl
      go_wp2_with fail
      refine (refVar_any v wr h1 h2).mono ?_
      rintro e w2 ⟨rfl, hb2⟩
      obtain ⟨r0', r1', rf0', rf1'⟩ := HRES.out w2 (HB.out.trans (hb2.mono (by omega)))
      have HB2 := Lib.hid (HW.out.trans (hb2.mono (by omega)))
      clear hb2 r0 r1 rf0 rf1
      go_wp2
      refine bodyPost_ret (v := tm (-1 - v) none 0 0) (by simp [results, Try.results100, go_sem, r0', r1']) rfl ?_
      rw [hof]
      refine ⟨none, 0, rfl, wf_vt h1 h2, ⟨by simp [vt, T.args], by simp [maxLen], .inl rfl⟩, ?_⟩
      exact (HB2.out.setCell (p := ⟨w.heap.size, 0, none⟩) (by simp) _).setCell (p := ⟨w.heap.size, 1, none⟩) (by simp) _


end Go.Proofs.Ytgjamdbiamleoaa
