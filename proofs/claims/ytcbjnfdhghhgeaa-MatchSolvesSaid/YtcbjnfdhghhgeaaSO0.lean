/- SO0: of SOf, what names no reference. -/
import Derived.Test.YtcbjnfdhghhgeaaQ1c
/- Contracts of Of, of the program and of the reference. -/
namespace Go.Proofs.Ytcbjnfdhghhgeaa
set_option linter.unusedVariables false
set_option linter.unusedSimpArgs false
open Go.RowKit

def OfPost (n₀ : Nat) (x : T) (w : World) (e : Ending) (w' : World) : Prop :=
  ∃ a c, e = .returned (tm x.head a x.args.length c) ∧ (Lit.int .i64 x.head).wf = true ∧ IsArgs n₀ w' x.args a c ∧ Below w.heap.size w w'
theorem wf_vt {v : Int} (h1 : -9223372036854775808 ≤ v) (h2 : v ≤ 9223372036854775807) : (Lit.int .i64 (vt v).head).wf = true :=
  WalkArith.wf_i64 ⟨by show -9223372036854775808 ≤ -1 - v; omega, by show -1 - v ≤ 9223372036854775807; omega⟩
def OfI (s : Sb) (v : Int) (w w1 : World) (i : Value) (wr : World) : Prop := ∃ k : Nat, k ≤ s.length ∧ i = .int .i64 k ∧ ofS s v = ofS (s.drop k) v ∧ Below (w.heap.size + 1) w1 wr

set_option maxRecDepth 100000 in
set_option maxHeartbeats 1000000 in
theorem of_any (s : Sb) (v : Int) (n₀ : Nat) (a : Option Addr) (c : Nat) (w : World) (hn : n₀ ≤ w.heap.size) (h1 : -9223372036854775808 ≤ v) (h2 : v ≤ 9223372036854775807) (hS : IsBs n₀ w s a c) :
    Calls Try.prog 43 #[.slice a s.length c, .int .i64 v] w (OfPost n₀ (ofS s v) w) := by
  have hl : s.length ≤ c ∧ c ≤ maxLen := ⟨hS.1, hS.2.1⟩
  unfold maxLen at hl
  obtain ⟨hl1, hl2⟩ := hl
  have HS := Lib.hid hS
  clear hS
  go_enter Try.func43, Try.ntmps43
  go_wp2
  obtain ⟨w1, hw1⟩ : ∃ w1, w.alloc (tmCells 0 none 0 0) = w1 := ⟨_, rfl⟩
  have hB1 : Below w.heap.size w w1 := by rw [← hw1]; exact (Below.refl _ w).alloc (Nat.le_refl _) _
  have hs1 : w1.heap.size = w.heap.size + 1 := by rw [← hw1]; simp
  have hres : ∀ W, Below (w.heap.size + 1) w1 W → W.cell? ⟨w.heap.size, 0, none⟩ = some (.int .i64 0) ∧ W.cell? ⟨w.heap.size, 1, none⟩ = some (.slice none 0 0) ∧ W.frozen? ⟨w.heap.size, 0, none⟩ = false ∧ W.frozen? ⟨w.heap.size, 1, none⟩ = false := fun W hW =>
    ⟨(hW.cell (p := ⟨w.heap.size, 0, none⟩) (by simp)).trans (by rw [← hw1]; simp [go_sem]), (hW.cell (p := ⟨w.heap.size, 1, none⟩) (by simp)).trans (by rw [← hw1]; simp [go_sem]), (hW.frozen (p := ⟨w.heap.size, 0, none⟩) (by simp)).trans (by rw [← hw1]; simp [go_sem]), (hW.frozen (p := ⟨w.heap.size, 1, none⟩) (by simp)).trans (by rw [← hw1]; simp [go_sem])⟩
  rw [hw1]
  have HRES := Lib.hid hres
  have HB1 := Lib.hid hB1
  have HS1 := Lib.hid hs1
  clear hres hB1 hs1 hw1
  go_loopw [9] (fun i wr => OfI s v w w1 i wr) (fun i _ => s.length - (intOf i).toNat)
  case atStart => exact ⟨0, Nat.zero_le _, rfl, rfl, Below.refl _ _⟩
  case round =>
    obtain ⟨k, hk, rfl, hof, hB⟩ := hrel
    obtain ⟨r0, r1, rf0, rf1⟩ := HRES.out wr hB
    have hz : w.heap.size + 1 ≤ wr.heap.size := by have := hB.size; have := HS1.out; omega
    have HO := Lib.hid hof
    have HB := Lib.hid hB
    have HW := Lib.hid (HB1.out.trans (hB.mono (by omega)))
    clear hof hB
    by_cases hlt : k < s.length
    · obtain ⟨b, o, x, t, a', c', rfl, hbn, hsk, hxw, htw, hc0, hc1, hc2, hA'⟩ := (HS.out.below (HW.out.mono hn)).elem (i := k) hlt
      have hk0 : (0 : Int) ≤ (k : Int) := Int.natCast_nonneg _
      have hk1 : (k : Int) < (s.length : Int) := by omega
      have HSK := Lib.hid (ofS_step v hsk)
      have HTW := Lib.hid htw
      have HA' := Lib.hid hA'
      have hbw : b < wr.heap.size := by omega
      have hzw : w.heap.size < wr.heap.size := by omega
      clear hsk htw hxw hA'
      by_cases hv : x = v
      · subst hv
        have hof : ofS s x = t := by rw [HO.out, HSK.out]; simp
        go_wp2
        refine bodyPost_ret (v := tm t.head a' t.args.length c') (by simp [results, Try.results43, go_sem, r0, r1, hzw]) rfl ?_
        first | rw [hof] | skip
        exact ⟨a', c', rfl, HTW.out, HA'.out.below ((((Below.refl n₀ wr).setCell (p := ⟨w.heap.size, 0, none⟩) hn _).setCell (p := ⟨w.heap.size, 1, none⟩) hn _).alloc (by simp; omega) _), (((HW.out.setCell (p := ⟨w.heap.size, 0, none⟩) (by simp) _).setCell (p := ⟨w.heap.size, 1, none⟩) (by simp) _).alloc (by simp; omega) _)⟩
      · have hv1 : (x == v) = false := by simpa using hv
        go_wp2
        go_roundw
        case rel =>
          refine ⟨k + 1, by omega, by go_num, ?_, HB.out.alloc (by omega) _⟩
          rw [HO.out, HSK.out, if_neg hv]
        case measure => simp [intOf]; omega
    · have hof : ofS s v = vt v := by rw [HO.out, List.drop_of_length_le (by omega)]; rfl
      go_wp2_with fail
      refine (sVariable_any v wr h1 h2).mono ?_
      rintro e w2 ⟨rfl, hb2⟩
      obtain ⟨r0', r1', rf0', rf1'⟩ := HRES.out w2 (HB.out.trans (hb2.mono (by omega)))
      have HB2 := Lib.hid (HW.out.trans (hb2.mono (by omega)))
      clear hb2 r0 r1 rf0 rf1
      go_wp2
      refine bodyPost_ret (v := tm (-1 - v) none 0 0) (by simp [results, Try.results43, go_sem, r0', r1']) rfl ?_
      rw [hof]
      refine ⟨none, 0, rfl, wf_vt h1 h2, ⟨by simp [vt, T.args], by simp [maxLen], .inl rfl⟩, ?_⟩
      exact (HB2.out.setCell (p := ⟨w.heap.size, 0, none⟩) (by simp) _).setCell (p := ⟨w.heap.size, 1, none⟩) (by simp) _

end Go.Proofs.Ytcbjnfdhghhgeaa

/- Contract of the program's Check of substitutions. -/
namespace Go.Proofs.Ytcbjnfdhghhgeaa
set_option linter.unusedVariables false
set_option linter.unusedSimpArgs false
open Go.RowKit

def CkI (s : Sb) (w : World) (l i : Value) (wr : World) : Prop := ∃ (k : Nat) (z : Int), k ≤ s.length ∧ i = .int .i64 k ∧ l = .int .i64 z ∧ 0 ≤ z ∧ z ≤ 256 ∧ rightS 0 s = rightS z (s.drop k) ∧ Below w.heap.size w wr
def errS (s : Sb) : Int := if rightS 0 s then 0 else 1

set_option maxRecDepth 100000 in
set_option maxHeartbeats 1000000 in
theorem sCheck_any (s : Sb) (hsz : ∀ x ∈ s, x.2.size ≤ 1000000000000) (n₀ : Nat) (a : Option Addr) (c : Nat) (w : World) (hn : n₀ ≤ w.heap.size) (hS : IsBs n₀ w s a c) :
    Calls Try.prog 20 #[.slice a s.length c] w fun e w' => e = .returned (.int .i64 (errS s)) ∧ Below w.heap.size w w' := by
  have hl : s.length ≤ c ∧ c ≤ maxLen := ⟨hS.1, hS.2.1⟩
  unfold maxLen at hl
  obtain ⟨hl1, hl2⟩ := hl
  have HS := Lib.hid hS
  have HZ := Lib.hid hsz
  clear hS hsz
  go_enter Try.func20, Try.ntmps20
  go_wp2
  go_loopw [3, 8] (fun l i wr => CkI s w l i wr) (fun _ i _ => s.length - (intOf i).toNat)
  case atStart => exact ⟨0, 0, Nat.zero_le _, rfl, rfl, by omega, by omega, rfl, Below.refl _ _⟩
  case round =>
    obtain ⟨k, z, hk, rfl, rfl, hz0, hz1, hrt, hB⟩ := hrel
    have HR := Lib.hid hrt
    have HB := Lib.hid hB
    have hbz := hB.size
    clear hrt hB
    by_cases hlt : k < s.length
    · obtain ⟨b, o, x, t, a', c', rfl, hbn, hsk, hxw, htw, hc0, hc1, hc2, hA'⟩ := (HS.out.below (HB.out.mono hn)).elem (i := k) hlt
      have hk0 : (0 : Int) ≤ (k : Int) := Int.natCast_nonneg _
      have hk1 : (k : Int) < (s.length : Int) := by omega
      have HSK := Lib.hid (rightS_step (l := z) hsk)
      have hts : t.size ≤ 1000000000000 := HZ.out (x, t) (List.mem_of_getElem? hsk)
      have HTW := Lib.hid htw
      obtain ⟨hx1, hx2⟩ := wf_low hxw
      have hbw : b < wr.heap.size := by omega
      obtain ⟨w2, hw2⟩ : ∃ w2, wr.alloc (.cells #[.int .i64 x, .int .i64 t.head, .slice a' t.args.length c'] 43) = w2 := ⟨_, rfl⟩
      have hb2 : Below wr.heap.size wr w2 := by rw [← hw2]; exact (Below.refl _ _).alloc (Nat.le_refl _) _
      have L2 := Lib.hid (show ∀ W, Below w2.heap.size w2 W → W.cell? ⟨wr.heap.size, 0, none⟩ = some (.int .i64 x) ∧ W.cell? ⟨wr.heap.size, 1, none⟩ = some (.int .i64 t.head) ∧ W.cell? ⟨wr.heap.size, 2, none⟩ = some (.slice a' t.args.length c') from fun W hW =>
        ⟨(hW.cell (p := ⟨wr.heap.size, 0, none⟩) (by rw [← hw2]; simp)).trans (by rw [← hw2]; simp [go_sem]), (hW.cell (p := ⟨wr.heap.size, 1, none⟩) (by rw [← hw2]; simp)).trans (by rw [← hw2]; simp [go_sem]), (hW.cell (p := ⟨wr.heap.size, 2, none⟩) (by rw [← hw2]; simp)).trans (by rw [← hw2]; simp [go_sem])⟩)
      have HB2 := Lib.hid (HB.out.trans (hb2.mono hbz))
      have hAw := hA'.below (hb2.mono (by omega))
      have HA' := Lib.hid (show IsArgs w2.heap.size w2 t.args a' c' from hAw.mono (by have := hb2.size; omega))
      clear hsk htw hxw hA' hAw hb2
      by_cases q1 : x < z
      · have hd : errS s = 1 := by unfold errS; rw [HR.out, HSK.out, decide_eq_false (show ¬ z ≤ x from by omega)]; simp
        have HF := Lib.hid (show ∀ o, Below w.heap.size w (wr.alloc o) from fun o => HB.out.alloc hbz _)
        clear hw2 L2
        go_wp2
        go_ret
        exact ⟨by first | (rw [hd]; rfl) | rfl, HF.out _⟩
      by_cases q2 : 255 < x
      · have hd : errS s = 1 := by unfold errS; rw [HR.out, HSK.out, decide_eq_false (show ¬ x ≤ 255 from by omega)]; simp
        have HF := Lib.hid (show ∀ o, Below w.heap.size w (wr.alloc o) from fun o => HB.out.alloc hbz _)
        clear hw2 L2
        go_wp2
        go_ret
        exact ⟨by first | (rw [hd]; rfl) | rfl, HF.out _⟩
      obtain ⟨d0, d1, d2⟩ := L2.out w2 (Below.refl _ _)
      go_wp2_with fail
      clear hw2 hc0 hc1 hc2 d0 d1 d2
      refine (check_any t hts w2.heap.size a' c' w2 (Nat.le_refl _) HTW.out HA'.out).mono ?_
      rintro e w3 ⟨rfl, hb3⟩
      have HB3 := Lib.hid (HB2.out.trans (hb3.mono HB2.out.size))
      obtain ⟨d0, d1, d2⟩ := L2.out w3 hb3
      by_cases q3 : t.check = 0
      · rw [q3]
        go_wp2_with fail
        clear d0 d1 d2
        refine (sIsVar_any t.head a' t.args.length c' x w3 hx1 hx2).mono ?_
        rintro e w4 ⟨rfl, hb4⟩
        have HB4 := Lib.hid (HB3.out.trans (hb4.mono HB3.out.size))
        obtain ⟨d0, d1, d2⟩ := L2.out w4 (hb3.trans (hb4.mono hb3.size))
        clear hb3 hb4
        by_cases q4 : t.head = -1 - x
        · have hd : errS s = 1 := by unfold errS; rw [HR.out, HSK.out, decide_eq_false (show ¬ t.head ≠ -1 - x from fun h => h q4)]; simp
          rw [decide_eq_true q4]
          go_wp2
          go_ret
          exact ⟨by first | (rw [hd]; rfl) | rfl, HB4.out⟩
        · rw [decide_eq_false q4]
          go_wp2
          go_roundw
          case rel =>
            refine ⟨k + 1, x + 1, by omega, by go_num, rfl, by omega, by omega, ?_, HB4.out⟩
            rw [HR.out, HSK.out, decide_eq_true (show z ≤ x from by omega), decide_eq_true (show x ≤ 255 from by omega), decide_eq_true q3, decide_eq_true (show t.head ≠ -1 - x from q4)]
            simp
          case measure => simp [intOf]; omega
      · have hd : errS s = 1 := by unfold errS; rw [HR.out, HSK.out, decide_eq_false q3]; simp
        have hne : (t.check == 0) = false := by simpa using q3
        clear hb3
        go_wp2
        go_ret
        exact ⟨by first | (rw [hd]; rfl) | rfl, HB3.out⟩
    · have hd : errS s = 0 := by unfold errS; rw [HR.out, List.drop_of_length_le (by omega)]; rfl
      go_wp2
      go_ret
      exact ⟨by first | (rw [hd]; rfl) | rfl, HB.out⟩

end Go.Proofs.Ytcbjnfdhghhgeaa
