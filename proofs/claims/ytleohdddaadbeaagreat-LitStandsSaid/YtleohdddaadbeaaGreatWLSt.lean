/- The walk of LitStands. -/
import Derived.Test.YtleohdddaadbeaaGreatQDh
import Derived.Test.YtleohdddaadbeaaGreatQBo
import Derived.Test.YtleohdddaadbeaaGreatQDi
namespace Go.Proofs.YtleohdddaadbeaaGreat
set_option linter.unusedVariables false
set_option linter.unusedSimpArgs false
open Go.RowKit

theorem orn_sz {g : Sg} {x z : LV} (hx : x.sz) (el : z.l = ornL g x.l x.r) (er : z.r = ornR g x.l x.r) : z.sz := by
  obtain ⟨h1, h2⟩ := hx
  refine ⟨?_, ?_⟩
  · rw [el]; unfold ornL oriA; split
    · split <;> assumption
    · simp [T.size, T.sizes]
  · rw [er]; unfold ornR oriB; split
    · split <;> assumption
    · simp [T.size, T.sizes]

set_option maxRecDepth 100000 in
set_option maxHeartbeats 8000000 in
theorem litStands_walk (g : Sg) (x y : LV) (ga : Option Addr) (gc : Nat) (w : World) (hG : IsSg w.heap.size w g ga gc) (hX : IsLv w.heap.size w x) (hY : IsLv w.heap.size w y) :
    Calls Tryz.prog 3 #[.slice ga g.length gc, x.v, y.v] w fun e w' => e = .returned (.bool true) ∧ Below w.heap.size w w' := by
  have d0 := ((((Later.below (Below.refl _ w)).and (later_lv hY)).and (later_lv hX)).and (later_sg hG)).pushL (Below.refl _ _) x
  have d1 := d0.pushL (Below.refl _ _) y
  simp only [heap_alloc_size] at d1
  have D := Lib.hid d1
  clear d0 d1 hG hX hY
  go_enter Tryz.func3, Tryz.ntmps3
  go_wp2_with fail
  generalize (w.alloc x.obj).alloc y.obj = w1 at D ⊢
  generalize hb0 : w.heap.size = b0 at D ⊢
  have HB0 := Lib.hid hb0
  clear hb0
  refine (fewG_any g w1.heap.size ga gc w1 (Nat.le_refl _) D.out.now.2.2.1).mono ?_
  rintro e w2 ⟨f1, rfl, hb⟩
  have D2 := Lib.hid (D.out.mv hb)
  clear hb D
  cases f1
  case false =>
    have HQ := Lib.hid D2.out.now.2.2.2.2.2
    clear D2
    go_wp2
    go_ret
    exact ⟨rfl, by rw [HB0.out]; exact HQ.out⟩
  obtain ⟨_, ⟨x0, x1, x2, x3, x4⟩, _⟩ := D2.out.now
  go_wp2_with fail
  clear x0 x1 x2 x3 x4
  refine (litFew_any x w2.heap.size w2 (Nat.le_refl _) D2.out.now.2.2.2.1).mono ?_
  rintro e w3 ⟨f1, rfl, hf, hb⟩
  have D3 := Lib.hid (D2.out.mv hb)
  clear hb D2
  cases f1
  case false =>
    have HQ := Lib.hid D3.out.now.2.2.2.2.2
    clear D3 hf
    go_wp2
    go_ret
    exact ⟨rfl, by rw [HB0.out]; exact HQ.out⟩
  have FX := Lib.hid (sz_few (hf rfl))
  clear hf
  obtain ⟨⟨x0, x1, x2, x3, x4⟩, _⟩ := D3.out.now
  go_wp2_with fail
  clear x0 x1 x2 x3 x4
  refine (litFew_any y w3.heap.size w3 (Nat.le_refl _) D3.out.now.2.2.2.2.1).mono ?_
  rintro e w4 ⟨f1, rfl, hf, hb⟩
  have D4 := Lib.hid (D3.out.mv hb)
  clear hb D3
  cases f1
  case false =>
    have HQ := Lib.hid D4.out.now.2.2.2.2.2
    clear D4 hf
    go_wp2
    go_ret
    exact ⟨rfl, by rw [HB0.out]; exact HQ.out⟩
  have FY := Lib.hid (sz_few (hf rfl))
  clear hf
  obtain ⟨⟨y0, y1, y2, y3, y4⟩, ⟨x0, x1, x2, x3, x4⟩, _⟩ := D4.out.now
  go_wp2_with fail
  clear x0 x1 x2 x3 x4 y0 y1 y2 y3 y4
  refine (litCompare_any g x y FX.out FY.out w4.heap.size ga gc w4 (Nat.le_refl _) D4.out.now.2.2.1 D4.out.now.2.2.2.1 D4.out.now.2.2.2.2.1).mono ?_
  rintro e w5 ⟨rfl, hb⟩
  have D5 := Lib.hid (D4.out.mv hb)
  clear hb D4
  obtain ⟨⟨y0, y1, y2, y3, y4⟩, ⟨x0, x1, x2, x3, x4⟩, _⟩ := D5.out.now
  go_wp2_with fail
  clear x0 x1 x2 x3 x4 y0 y1 y2 y3 y4
  refine (rLitCompare_any g x y FX.out FY.out w5.heap.size ga gc w5 (Nat.le_refl _) D5.out.now.2.2.1 D5.out.now.2.2.2.1 D5.out.now.2.2.2.2.1).mono ?_
  rintro e w6 ⟨rfl, hb⟩
  have D6 := Lib.hid (D5.out.mv hb)
  clear hb D5
  generalize lcR g x y = r1
  generalize lcE g x y = e1
  obtain ⟨_, ⟨x0, x1, x2, x3, x4⟩, _⟩ := D6.out.now
  go_wp2_with fail
  clear x0 x1 x2 x3 x4
  refine (litOrient_any g x FX.out w6.heap.size ga gc w6 (Nat.le_refl _) D6.out.now.2.2.1 D6.out.now.2.2.2.1).mono ?_
  rintro e w7 ⟨z, rfl, en, el, er, hZ, hb⟩
  have D7 := Lib.hid (((D6.out.mv hb).and (later_lv hZ)).pushL (Below.refl _ _) z)
  have EZ := Lib.hid (And.intro en (And.intro el er))
  clear hb D6 hZ en el er
  obtain ⟨w8, hw8⟩ : ∃ w8, w7.alloc z.obj = w8 := ⟨_, rfl⟩
  rw [hw8] at D7
  obtain ⟨_, _, _, ⟨x0, x1, x2, x3, x4⟩, _⟩ := D7.out.now
  go_wp2_with fail
  clear x0 x1 x2 x3 x4 hw8
  refine (rLitOrient_any g x FX.out w8.heap.size ga gc w8 (Nat.le_refl _) D7.out.now.2.2.2.2.1 D7.out.now.2.2.2.2.2.1).mono ?_
  rintro e w9 ⟨u, rfl, en, el, er, hU, hb⟩
  have D9 := Lib.hid (((D7.out.mv hb).and (later_lv hU)).pushL (Below.refl _ _) u)
  have EU := Lib.hid (And.intro en (And.intro el er))
  clear hb D7 hU en el er
  obtain ⟨w10, hw10⟩ : ∃ w10, w9.alloc u.obj = w10 := ⟨_, rfl⟩
  rw [hw10] at D9
  generalize errL g x.l x.r = e2
  go_wp2_with fail
  clear hw10
  refine (awake9_any w10).mono ?_
  rintro e w11 ⟨rfl, hb⟩
  have D11 := Lib.hid (D9.out.mv hb)
  clear hb D9
  obtain ⟨⟨u0, u1, u2, u3, u4⟩, _, ⟨z0, z1, z2, z3, z4⟩, _⟩ := D11.out.now
  go_wp2_with fail
  clear u0 u1 u2 u3 u4 z0 z1 z2 z3 z4
  refine (exactAt_any z u (EU.out.1.trans EZ.out.1.symm) (EZ.out.2.1.trans EU.out.2.1.symm) (EZ.out.2.2.trans EU.out.2.2.symm) (orn_sz FX.out EZ.out.2.1 EZ.out.2.2) w11.heap.size w11 (Nat.le_refl _) D11.out.now.2.2.2.1 D11.out.now.2.1).mono ?_
  rintro e w12 ⟨rfl, hb⟩
  have HQ := Lib.hid (D11.out.mv hb).now.2.2.2.2.2.2.2.2.2
  clear hb D11
  go_wp2
  go_ret
  exact ⟨by simp, by rw [HB0.out]; exact HQ.out⟩

end Go.Proofs.YtleohdddaadbeaaGreat
