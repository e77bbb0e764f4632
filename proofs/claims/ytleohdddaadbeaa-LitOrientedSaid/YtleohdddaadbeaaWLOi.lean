/- The walk of LitOriented. -/
import Derived.Test.YtleohdddaadbeaaQDh
import Derived.Test.YtleohdddaadbeaaQDg
import Derived.Test.YtleohdddaadbeaaQBo
import Derived.Test.YtleohdddaadbeaaAw9
namespace Go.Proofs.Ytleohdddaadbeaa
set_option linter.unusedVariables false
set_option linter.unusedSimpArgs false
open Go.RowKit

theorem ori_facts {g : Sg} {x z : LV} (h : errL g x.l x.r = 0) (en : z.n = ornN g x.n x.l x.r) (el : z.l = ornL g x.l x.r) (er : z.r = ornR g x.l x.r) :
    errL g z.l z.r = 0 ∧ stand g z.l z.r ≠ -1 ∧ samL z.n z.l z.r x.n x.l x.r = true ∧ ornN g z.n z.l z.r = z.n ∧ ornL g z.l z.r = z.l ∧ ornR g z.l z.r = z.r := by
  have e1 : z.n = x.n := by rw [en]; unfold ornN; rw [if_pos h]
  have e2 : z.l = oriA g x.l x.r := by rw [el]; unfold ornL; rw [if_pos h]
  have e3 : z.r = oriB g x.l x.r := by rw [er]; unfold ornR; rw [if_pos h]
  have hz : errL g z.l z.r = 0 := by rw [e2, e3]; exact errL_ori h
  refine ⟨hz, by rw [e2, e3]; exact stand_ori g _ _, ?_, ?_, ?_, ?_⟩
  · rw [samL, Bool.and_eq_true, beq_iff_eq, e1, e2, e3]; exact ⟨rfl, sid_ori g _ _⟩
  · unfold ornN; rw [if_pos hz]
  · unfold ornL; rw [if_pos hz, e2, e3]; exact (ori_again g _ _).1
  · unfold ornR; rw [if_pos hz, e2, e3]; exact (ori_again g _ _).2
theorem ori_sz {g : Sg} {x z : LV} (hx : x.sz) (el : z.l = ornL g x.l x.r) (er : z.r = ornR g x.l x.r) : z.sz := by
  obtain ⟨h1, h2⟩ := hx
  refine ⟨?_, ?_⟩
  · rw [el]; unfold ornL oriA; split
    · split <;> assumption
    · simp [T.size, T.sizes]
  · rw [er]; unfold ornR oriB; split
    · split <;> assumption
    · simp [T.size, T.sizes]

set_option maxRecDepth 100000 in
set_option maxHeartbeats 8000000 in
theorem litOriented_walk (g : Sg) (x : LV) (ga : Option Addr) (gc : Nat) (w : World) (hG : IsSg w.heap.size w g ga gc) (hX : IsLv w.heap.size w x) :
    Calls Try.prog 5 #[.slice ga g.length gc, x.v] w fun e w' => e = .returned (.bool true) ∧ Below w.heap.size w w' := by
  have d0 := (((Later.below (Below.refl _ w)).and (later_lv hX)).and (later_sg hG)).pushL (Below.refl _ _) x
  have D := Lib.hid d0
  clear d0 hG hX
  go_enter Try.func5, Try.ntmps5
  go_wp2_with fail
  generalize w.alloc x.obj = w1 at D ⊢
  generalize hb0 : w.heap.size = b0 at D ⊢
  have HB0 := Lib.hid hb0
  clear hb0
  refine (fewG_any g w1.heap.size ga gc w1 (Nat.le_refl _) D.out.now.2.1).mono ?_
  rintro e w2 ⟨f1, rfl, hb⟩
  have D2 := Lib.hid (D.out.mv hb)
  clear hb D
  cases f1
  case false =>
    have HQ := Lib.hid D2.out.now.2.2.2
    clear D2
    go_wp2
    go_ret
    exact ⟨rfl, by rw [HB0.out]; exact HQ.out⟩
  obtain ⟨⟨x0, x1, x2, x3, x4⟩, _⟩ := D2.out.now
  go_wp2_with fail
  clear x0 x1 x2 x3 x4
  refine (litFew_any x w2.heap.size w2 (Nat.le_refl _) D2.out.now.2.2.1).mono ?_
  rintro e w3 ⟨f1, rfl, hf, hb⟩
  have D3 := Lib.hid (D2.out.mv hb)
  clear hb D2
  cases f1
  case false =>
    have HQ := Lib.hid D3.out.now.2.2.2
    clear D3 hf
    go_wp2
    go_ret
    exact ⟨rfl, by rw [HB0.out]; exact HQ.out⟩
  have FX := Lib.hid (sz_few (hf rfl))
  clear hf
  obtain ⟨⟨x0, x1, x2, x3, x4⟩, _⟩ := D3.out.now
  go_wp2_with fail
  clear x0 x1 x2 x3 x4
  refine (litOrient_any g x FX.out w3.heap.size ga gc w3 (Nat.le_refl _) D3.out.now.2.1 D3.out.now.2.2.1).mono ?_
  rintro e w4 ⟨z, rfl, en, el, er, hZ, hb⟩
  have D5 := Lib.hid (((D3.out.mv hb).and (later_lv hZ)).pushL (Below.refl _ _) z)
  have EN := Lib.hid en
  have EL := Lib.hid el
  have ER := Lib.hid er
  clear hb D3 hZ en el er
  obtain ⟨w5, hw5⟩ : ∃ w5, w4.alloc z.obj = w5 := ⟨_, rfl⟩
  rw [hw5] at D5
  by_cases h : errL g x.l x.r = 0
  case neg =>
    have CK := Lib.hid (fun (W : World) (hW : Below w5.heap.size w5 W) => litCheck_any g x FX.out W.heap.size ga gc W (Nat.le_refl _) (D5.out.mv hW).now.2.2.2.1 (D5.out.mv hW).now.2.2.2.2.1)
    obtain ⟨k, hk⟩ : ∃ k, errL g x.l x.r = k := ⟨_, rfl⟩
    rw [hk] at h CK ⊢
    have h2 : (k != 0) = true := by simpa using h
    clear h hk
    go_wp2_with fail
    clear hw5
    refine (awake9_any w5).mono ?_
    rintro e w6 ⟨rfl, hb⟩
    have HB6 := Lib.hid hb
    have D6 := Lib.hid (D5.out.mv hb)
    clear hb
    obtain ⟨_, _, ⟨x0, x1, x2, x3, x4⟩, _⟩ := D6.out.now
    go_wp2_with fail
    clear x0 x1 x2 x3 x4
    refine (CK.out w6 HB6.out).mono ?_
    rintro e w7 ⟨rfl, hb⟩
    have HQ := Lib.hid (D6.out.mv hb).now.2.2.2.2.2
    clear hb D6
    go_wp2
    go_ret
    exact ⟨by simp, by rw [HB0.out]; exact HQ.out⟩
  have FA := Lib.hid (ori_facts h EN.out EL.out ER.out)
  have FZ := Lib.hid (ori_sz FX.out EL.out ER.out)
  rw [h]
  clear h EN EL ER
  obtain ⟨⟨z0, z1, z2, z3, z4⟩, _⟩ := D5.out.now
  go_wp2_with fail
  clear z0 z1 z2 z3 z4 hw5
  have CC := Lib.hid (kCompare_any g z.l z.r FZ.out.1 FZ.out.2 w5.heap.size ga gc z.pa z.ca z.pb z.cb w5 (Nat.le_refl _) D5.out.now.2.2.2.1 D5.out.now.2.1.lw D5.out.now.2.1.rw D5.out.now.2.1.la D5.out.now.2.1.ra)
  have hcmp := or_cmp FA.out.1
  have HC := Lib.hid hcmp
  clear hcmp
  refine CC.out.mono ?_
  rw [HC.out]
  rintro e w6 ⟨rfl, hb⟩
  have D6 := Lib.hid (D5.out.mv hb)
  clear hb D5 CC HC
  obtain ⟨⟨z0, z1, z2, z3, z4⟩, _⟩ := D6.out.now
  go_wp2_with fail
  clear z0 z1 z2 z3 z4
  have OC := Lib.hid (litOrient_any g z FZ.out w6.heap.size ga gc w6 (Nat.le_refl _) D6.out.now.2.2.2.1 D6.out.now.2.1)
  have hor := FA.out
  obtain ⟨hz0, hst, hsm, hn, hl, hr⟩ := hor
  rw [hz0, hn, hl, hr] at OC
  have ST := Lib.hid hst
  have SM := Lib.hid hsm
  clear hz0 hst hsm hn hl hr FA
  refine OC.out.mono ?_
  rintro e w7 ⟨u, rfl, en, el, er, hU, hb⟩
  have D8 := Lib.hid (((D6.out.mv hb).and (later_lv hU)).pushL (Below.refl _ _) u)
  have EN := Lib.hid en
  have EL := Lib.hid el
  have ER := Lib.hid er
  clear hb D6 hU en el er OC
  obtain ⟨w8, hw8⟩ : ∃ w8, w7.alloc u.obj = w8 := ⟨_, rfl⟩
  rw [hw8] at D8
  go_wp2_with fail
  clear hw8
  refine (awake9_any w8).mono ?_
  rintro e w9 ⟨rfl, hb⟩
  have D9 := Lib.hid (D8.out.mv hb)
  clear hb D8
  obtain ⟨_, _, ⟨z0, z1, z2, z3, z4⟩, _, ⟨x0, x1, x2, x3, x4⟩, _⟩ := D9.out.now
  go_wp2_with fail
  clear z0 z1 z2 z3 z4 x0 x1 x2 x3 x4
  have CS := Lib.hid (litSame_any z x FZ.out w9.heap.size w9 (Nat.le_refl _) D9.out.now.2.2.2.1 D9.out.now.2.2.2.2.2.2.1)
  rw [SM.out] at CS
  clear SM
  refine CS.out.mono ?_
  rintro e w10 ⟨rfl, hb⟩
  have D10 := Lib.hid (D9.out.mv hb)
  clear hb D9 CS
  obtain ⟨st, hst⟩ : ∃ st, stand g z.l z.r = st := ⟨_, rfl⟩
  rw [hst] at ST ⊢
  have hne : (st != -1) = true := by have := ST.out; simpa using this
  clear hst ST
  obtain ⟨⟨u0, u1, u2, u3, u4⟩, _, ⟨z0, z1, z2, z3, z4⟩, _⟩ := D10.out.now
  go_wp2_with fail
  clear z0 z1 z2 z3 z4 u0 u1 u2 u3 u4
  refine (exactAt_any u z EN.out.symm EL.out ER.out ⟨by rw [EL.out]; exact FZ.out.1, by rw [ER.out]; exact FZ.out.2⟩ w10.heap.size w10 (Nat.le_refl _) D10.out.now.2.1 D10.out.now.2.2.2.1).mono ?_
  rintro e w11 ⟨rfl, hb⟩
  have HQ := Lib.hid (D10.out.mv hb).now.2.2.2.2.2.2.2
  clear hb D10
  go_wp2
  go_ret
  exact ⟨rfl, by rw [HB0.out]; exact HQ.out⟩

end Go.Proofs.Ytleohdddaadbeaa
