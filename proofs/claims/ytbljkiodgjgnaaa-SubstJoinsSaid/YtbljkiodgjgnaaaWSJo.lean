/- The walk of SubstJoins. -/
import Derived.Test.YtbljkiodgjgnaaaRThen
import Derived.Test.YtbljkiodgjgnaaaBnd
import Derived.Test.YtbljkiodgjgnaaaAw3
import Derived.Test.YtbljkiodgjgnaaaFewS
import Derived.Test.YtbljkiodgjgnaaaRSm
namespace Go.Proofs.Ytbljkiodgjgnaaa
set_option linter.unusedVariables false
set_option linter.unusedSimpArgs false
open Go.RowKit

/-- What both answer: the same. -/
theorem then_both {s u : Sb} {w w1 w2 w3 : World} {e e' : Ending} (h : ThenPost s u w e w1) (h' : RThenPost s u w2 e' w3) :
    ∃ (x : Sb) (k : Int), ((∀ y ∈ s, y.2.size ≤ 1000000000000) → (∀ y ∈ x, y.2.size ≤ 1000000000000)) ∧ SEPost x k w e w1 ∧ SEPost x k w2 e' w3 := by
  rcases h with ⟨q, h⟩ | ⟨q, vs, hv, h⟩
  · rcases h' with ⟨q', h'⟩ | ⟨q', h'⟩
    · exact ⟨[], 1, by simp, h, h'⟩
    · rw [q] at q'; cases q'
  · rcases h' with ⟨q', h'⟩ | ⟨q', h'⟩
    · rw [q] at q'; cases q'
    · rw [Bool.and_eq_true] at q
      obtain ⟨e1, e2⟩ := then_allV q.1 q.2 hv
      rw [e1, e2] at h
      rcases h with ⟨p, h⟩ | ⟨p, h⟩
      · rcases h' with ⟨p', h'⟩ | ⟨p', h'⟩
        · refine ⟨_, _, fun _ y hy => ?_, h, h'⟩
          rw [(thenL_mem hy).1]
          exact Nat.le_trans (sub_bound q.2 (ofS_size (by omega) (right_size q.1) _)) (by omega)
        · exact absurd p p'
      · rcases h' with ⟨p', h'⟩ | ⟨p', h'⟩
        · exact absurd p' p
        · exact ⟨[], _, by simp, h, h'⟩

set_option maxRecDepth 100000 in
set_option maxHeartbeats 8000000 in
theorem substJoins_walk (s u : Sb) (as_ : Option Addr) (cs : Nat) (au : Option Addr) (cu : Nat) (w : World) (hS : IsBs w.heap.size w s as_ cs) (hU : IsBs w.heap.size w u au cu) :
    Calls Try.prog 6 #[.slice as_ s.length cs, .slice au u.length cu] w fun e w' => e = .returned (.bool true) ∧ Below w.heap.size w w' := by
  have D := Lib.hid (((Later.below (Below.refl _ w)).and (later_bs hU)).and (later_bs hS))
  clear hS hU
  go_enter Try.func6, Try.ntmps6
  go_wp2_with fail
  refine (fewS_any s w.heap.size as_ cs w (Nat.le_refl _) D.out.now.1).mono ?_
  rintro e w1 ⟨f1, rfl, hfew, hb⟩
  have D1 := Lib.hid (D.out.mv hb)
  clear hb D
  cases f1
  case false =>
    have HQ := Lib.hid D1.out.now.2.2
    clear D1 hfew
    go_wp2
    go_ret
    exact ⟨rfl, HQ.out⟩
  have HSS := Lib.hid (show ∀ x ∈ s, x.2.size ≤ 1000000000000 from fun x hx => Nat.le_trans (hfew rfl x hx) (by omega))
  clear hfew
  go_wp2_with fail
  refine (fewS_any u w1.heap.size au cu w1 (Nat.le_refl _) D1.out.now.2.1).mono ?_
  rintro e w2 ⟨f1, rfl, hfew, hb⟩
  have D2 := Lib.hid (D1.out.mv hb)
  clear hb D1
  cases f1
  case false =>
    have HQ := Lib.hid D2.out.now.2.2
    clear D2 hfew
    go_wp2
    go_ret
    exact ⟨rfl, HQ.out⟩
  have HUS := Lib.hid (show ∀ x ∈ u, x.2.size ≤ 1000000000000 from fun x hx => Nat.le_trans (hfew rfl x hx) (by omega))
  clear hfew
  go_wp2_with fail
  refine (then_any bound_any s u HSS.out HUS.out w2.heap.size as_ cs au cu w2 (Nat.le_refl _) D2.out.now.1 D2.out.now.2.1).mono ?_
  intro e w3 hp
  have HP := Lib.hid hp
  have hp2 : ∃ x k, SEPost x k w2 e w3 := by
    rcases hp with ⟨_, h⟩ | ⟨_, _, _, ⟨_, h⟩ | ⟨_, h⟩⟩ <;> exact ⟨_, _, h⟩
  obtain ⟨x0, k0, a0, c0, rfl, _, hb⟩ := hp2
  have D3 := Lib.hid (D2.out.mv hb)
  have HB23 := Lib.hid hb
  clear hb D2 hp
  go_wp2_with fail
  refine (refThen_any s u HSS.out HUS.out w3.heap.size as_ cs au cu w3 (Nat.le_refl _) D3.out.now.1 D3.out.now.2.1).mono ?_
  intro e w4 hp
  obtain ⟨x, k, hxs, ⟨a1, c1, e1, hI1, hb1⟩, ⟨a2, c2, rfl, hI2, hb2⟩⟩ := then_both HP.out hp
  have hxs := hxs HSS.out
  simp only [Ending.returned.injEq, Value.tuple.injEq] at e1
  simp at e1
  obtain ⟨⟨rfl, hxl, rfl⟩, rfl⟩ := e1
  rw [hxl]
  have HF := Lib.hid (D3.out.mv hb2).now.2.2
  have HA := Lib.hid (((later_bs hI1).mv hb2).and (later_bs hI2))
  clear hp HP hI1 hI2 hb1 hb2 D3 HB23 hxl
  go_wp2_with fail
  refine (awake3_any w4).mono ?_
  rintro e w5 ⟨rfl, hb5⟩
  have HA5 := Lib.hid (HA.out.mv hb5)
  have HF5 := Lib.hid (HF.out.trans (hb5.mono HF.out.size))
  clear hb5 HA HF
  go_wp2_with fail
  refine (sameS_any x hxs w5.heap.size a0 c0 a2 c2 w5 (Nat.le_refl _) HA5.out.now.2 HA5.out.now.1).mono ?_
  rintro e w6 ⟨rfl, hb6⟩
  have HF6 := Lib.hid (HF5.out.trans (hb6.mono HF5.out.size))
  clear hb6 HF5
  go_wp2
  go_ret
  exact ⟨by simp, HF6.out⟩

end Go.Proofs.Ytbljkiodgjgnaaa
