/- The walk of LitHolds. -/
import Derived.Test.YtleohdddaadbeaaWf
import Derived.Test.YtleohdddaadbeaaWr
import Derived.Test.YtleohdddaadbeaaWv
import Derived.Test.YtleohdddaadbeaaQDf
import Derived.Test.YtleohdddaadbeaaQDg
import Derived.Test.YtleohdddaadbeaaQDh
import Derived.Test.YtleohdddaadbeaaQBo
import Derived.Test.YtleohdddaadbeaaAw9
namespace Go.Proofs.Ytleohdddaadbeaa
set_option linter.unusedVariables false
set_option linter.unusedSimpArgs false
open Go.RowKit

def LhI (m : Ip) (f : List Int) (w : World) (i : Value) (wr : World) : Prop := ∃ k : Nat, k ≤ f.length ∧ i = .int .i64 k ∧ (∀ (j : Nat) (z : Int), j < k → f[j]? = some z → 0 ≤ z ∧ z < m.size) ∧ Below w.heap.size w wr

set_option maxRecDepth 100000 in
set_option maxHeartbeats 8000000 in
theorem litHolds_walk (g : Sg) (m : Ip) (x y : LV) (f : List Int) (ga : Option Addr) (gc : Nat) (ma : Option Addr) (mc : Nat) (fa : Option Addr) (fc : Nat) (w : World) (hmw : (Lit.int .i64 m.size).wf = true) (hG : IsSg w.heap.size w g ga gc) (hM : IsRs w.heap.size w m.rows ma mc) (hX : IsLv w.heap.size w x) (hY : IsLv w.heap.size w y) (hF : IsIs w.heap.size w f fa fc) :
    Calls Try.prog 6 #[.slice ga g.length gc, ipV m ma mc, x.v, y.v, .slice fa f.length fc] w fun e w' => e = .returned (.bool true) ∧ Below w.heap.size w w' := by
  have hfl : f.length ≤ fc ∧ fc ≤ maxLen := ⟨hF.1, hF.2.1⟩
  unfold maxLen at hfl
  obtain ⟨hf1, hf2⟩ := hfl
  have d0 := (((((((Later.below (Below.refl _ w)).and (later_is hF)).and (later_lv hY)).and (later_lv hX)).and (later_rs hM)).and (later_sg hG)).pushI (Below.refl _ _) m ma mc).pushL (Below.refl _ _) x
  have d1 := d0.pushL (Below.refl _ _) y
  simp only [heap_alloc_size] at d1
  have D := Lib.hid d1
  clear d0 d1 hG hM hX hY hF hmw
  go_enter Try.func6, Try.ntmps6
  go_wp2_with fail
  generalize ((w.alloc (ipO m ma mc)).alloc x.obj).alloc y.obj = w1 at D ⊢
  generalize hb0 : w.heap.size = b0 at D ⊢
  have HB0 := Lib.hid hb0
  clear hb0
  refine (fewG_any g w1.heap.size ga gc w1 (Nat.le_refl _) D.out.now.2.2.2.1).mono ?_
  rintro e w2 ⟨f1, rfl, hb⟩
  have D2 := Lib.hid (D.out.mv hb)
  clear hb D
  cases f1
  case false =>
    have HQ := Lib.hid D2.out.now.2.2.2.2.2.2.2.2
    clear D2
    go_wp2
    go_ret
    exact ⟨rfl, by rw [HB0.out]; exact HQ.out⟩
  obtain ⟨_, _, ⟨i0, i1⟩, _⟩ := D2.out.now
  go_wp2_with fail
  clear i0 i1
  refine (worldFew_any m w2.heap.size ma mc w2 (Nat.le_refl _) D2.out.now.2.2.2.2.1).mono ?_
  rintro e w3 ⟨f1, rfl, hb⟩
  have D3 := Lib.hid (D2.out.mv hb)
  clear hb D2
  cases f1
  case false =>
    have HQ := Lib.hid D3.out.now.2.2.2.2.2.2.2.2
    clear D3
    go_wp2
    go_ret
    exact ⟨rfl, by rw [HB0.out]; exact HQ.out⟩
  obtain ⟨_, ⟨x0, x1, x2, x3, x4⟩, _⟩ := D3.out.now
  go_wp2_with fail
  clear x0 x1 x2 x3 x4
  refine (litFew_any x w3.heap.size w3 (Nat.le_refl _) D3.out.now.2.2.2.2.2.1).mono ?_
  rintro e w4 ⟨f1, rfl, hf, hb⟩
  have D4 := Lib.hid (D3.out.mv hb)
  clear hb D3
  cases f1
  case false =>
    have HQ := Lib.hid D4.out.now.2.2.2.2.2.2.2.2
    clear D4 hf
    go_wp2
    go_ret
    exact ⟨rfl, by rw [HB0.out]; exact HQ.out⟩
  have FX := Lib.hid (sz_few (hf rfl))
  clear hf
  obtain ⟨⟨x0, x1, x2, x3, x4⟩, _⟩ := D4.out.now
  go_wp2_with fail
  clear x0 x1 x2 x3 x4
  refine (litFew_any y w4.heap.size w4 (Nat.le_refl _) D4.out.now.2.2.2.2.2.2.1).mono ?_
  rintro e w5 ⟨f1, rfl, hf, hb⟩
  have D5 := Lib.hid (D4.out.mv hb)
  clear hb D4
  cases f1
  case false =>
    have HQ := Lib.hid D5.out.now.2.2.2.2.2.2.2.2
    clear D5 hf
    go_wp2
    go_ret
    exact ⟨rfl, by rw [HB0.out]; exact HQ.out⟩
  have FY := Lib.hid (sz_few (hf rfl))
  clear hf
  by_cases qf : 300 < f.length
  · have HQ := Lib.hid D5.out.now.2.2.2.2.2.2.2.2
    have qf' : 300 < (f.length : Int) := by omega
    clear D5
    go_wp2
    go_ret
    exact ⟨rfl, by rw [HB0.out]; exact HQ.out⟩
  have qf' : decide (300 < (f.length : Int)) = false := decide_eq_false (by omega)
  obtain ⟨_, _, ⟨i0, i1⟩, _⟩ := D5.out.now
  go_wp2_with fail
  clear i0 i1
  refine (worldRight_any g m w5.heap.size ga gc ma mc w5 (Nat.le_refl _) D5.out.now.2.2.2.1 D5.out.now.2.2.2.2.1).mono ?_
  rintro e w6 ⟨rfl, hb⟩
  have D6 := Lib.hid (D5.out.mv hb)
  clear hb D5
  cases hwr : wRight g m
  case false =>
    clear hwr
    go_wp2_with fail
    refine (awake9_any w6).mono ?_
    rintro e w7 ⟨rfl, hb⟩
    have HQ := Lib.hid (D6.out.mv hb).now.2.2.2.2.2.2.2.2
    clear hb D6
    go_wp2
    go_ret
    exact ⟨rfl, by rw [HB0.out]; exact HQ.out⟩
  have HWR := Lib.hid hwr
  clear hwr
  obtain ⟨_, ⟨x0, x1, x2, x3, x4⟩, _⟩ := D6.out.now
  go_wp2_with fail
  clear x0 x1 x2 x3 x4
  refine (litCheck_any g x FX.out w6.heap.size ga gc w6 (Nat.le_refl _) D6.out.now.2.2.2.1 D6.out.now.2.2.2.2.2.1).mono ?_
  rintro e w7 ⟨rfl, hb⟩
  have D7 := Lib.hid (D6.out.mv hb)
  clear hb D6
  by_cases hcx : errL g x.l x.r = 0
  case neg =>
    obtain ⟨k, hk⟩ : ∃ k, errL g x.l x.r = k := ⟨_, rfl⟩
    rw [hk] at hcx ⊢
    have h2 : (k != 0) = true := by simpa using hcx
    clear hcx hk
    go_wp2_with fail
    refine (awake9_any w7).mono ?_
    rintro e w8 ⟨rfl, hb⟩
    have HQ := Lib.hid (D7.out.mv hb).now.2.2.2.2.2.2.2.2
    clear hb D7
    go_wp2
    go_ret
    exact ⟨rfl, by rw [HB0.out]; exact HQ.out⟩
  have HCX := Lib.hid hcx
  rw [hcx]
  clear hcx
  obtain ⟨⟨x0, x1, x2, x3, x4⟩, _⟩ := D7.out.now
  go_wp2_with fail
  clear x0 x1 x2 x3 x4
  refine (litCheck_any g y FY.out w7.heap.size ga gc w7 (Nat.le_refl _) D7.out.now.2.2.2.1 D7.out.now.2.2.2.2.2.2.1).mono ?_
  rintro e w8 ⟨rfl, hb⟩
  have D8 := Lib.hid (D7.out.mv hb)
  clear hb D7
  by_cases hcy : errL g y.l y.r = 0
  case neg =>
    obtain ⟨k, hk⟩ : ∃ k, errL g y.l y.r = k := ⟨_, rfl⟩
    rw [hk] at hcy ⊢
    have h2 : (k != 0) = true := by simpa using hcy
    clear hcy hk
    go_wp2_with fail
    refine (awake9_any w8).mono ?_
    rintro e w9 ⟨rfl, hb⟩
    have HQ := Lib.hid (D8.out.mv hb).now.2.2.2.2.2.2.2.2
    clear hb D8
    go_wp2
    go_ret
    exact ⟨rfl, by rw [HB0.out]; exact HQ.out⟩
  have HCY := Lib.hid hcy
  rw [hcy]
  clear hcy
  go_wp2
  go_loopw [11] (fun i wr => LhI m f w8 i wr) (fun i _ => f.length - (intOf i).toNat)
  case atStart => exact ⟨0, Nat.zero_le _, rfl, fun j z hj => by omega, Below.refl _ _⟩
  case round =>
    obtain ⟨k, hk, rfl, hall, hB⟩ := hrel
    have HA := Lib.hid hall
    have HB := Lib.hid hB
    have hbz := hB.size
    have D9 := Lib.hid (D8.out.mv hB)
    clear hall hB
    by_cases hlt : k < f.length
    · obtain ⟨fb, fo, z, rfl, hfb, hz, hcz⟩ := D9.out.now.2.2.2.2.2.2.2.1.elem hlt
      have HZ := Lib.hid hz
      obtain ⟨i0, i1⟩ := D9.out.now.2.2.1
      have hk0 : (0 : Int) ≤ (k : Int) := Int.natCast_nonneg _
      have hk1 : (k : Int) < (f.length : Int) := by omega
      have g0 := fun d os => cell_regrown i0 d os
      have g1 := fun d os => cell_regrown hcz d os
      clear hz
      by_cases q1 : z < 0
      · have q1' : decide (z < 0) = true := decide_eq_true q1
        go_wp2
        refine wp_region_wq (by kernel_rfl) (by kernel_rfl) ?_
        repeat (first
          | (refine WQ.skip (by rfl) ?_; simp only [Act.put, List.setIfInBounds_toArray, List.set_cons_succ, List.set_cons_zero])
          | (apply WQ.two (by rfl); (intro w' hw'; obtain ⟨pq, rfl⟩ := hw'; go_simp; first | exact rfl); simp only [Act.put, List.setIfInBounds_toArray, List.set_cons_succ, List.set_cons_zero]))
        refine WQ.nil ?_
        intro _ hw'
        obtain ⟨⟨dq, osq⟩, hw''⟩ := hw'
        subst hw''
        have D10 := Lib.hid (D9.out.mv (below_regrown wr dq osq))
        dsimp only
        generalize Go.Sort.grow (redrawn wr dq) osq = w10 at D10 ⊢
        go_wp2_with fail
        refine (awake9_any w10).mono ?_
        rintro e w11 ⟨rfl, hb⟩
        have HQ := Lib.hid (D10.out.mv hb).now.2.2.2.2.2.2.2.2
        clear hb D10
        go_wp2
        go_ret
        exact ⟨rfl, by rw [HB0.out]; exact HQ.out⟩
      · have q1' : decide (z < 0) = false := decide_eq_false q1
        by_cases q2 : m.size ≤ z
        · have q2' : decide (m.size ≤ z) = true := decide_eq_true q2
          go_wp2
          refine wp_region_wq (by kernel_rfl) (by kernel_rfl) ?_
          repeat (first
            | (refine WQ.skip (by rfl) ?_; simp only [Act.put, List.setIfInBounds_toArray, List.set_cons_succ, List.set_cons_zero])
            | (apply WQ.two (by rfl); (intro w' hw'; obtain ⟨pq, rfl⟩ := hw'; go_simp; first | exact rfl); simp only [Act.put, List.setIfInBounds_toArray, List.set_cons_succ, List.set_cons_zero]))
          refine WQ.nil ?_
          intro _ hw'
          obtain ⟨⟨dq, osq⟩, hw''⟩ := hw'
          subst hw''
          have D10 := Lib.hid (D9.out.mv (below_regrown wr dq osq))
          dsimp only
          generalize Go.Sort.grow (redrawn wr dq) osq = w10 at D10 ⊢
          go_wp2_with fail
          refine (awake9_any w10).mono ?_
          rintro e w11 ⟨rfl, hb⟩
          have HQ := Lib.hid (D10.out.mv hb).now.2.2.2.2.2.2.2.2
          clear hb D10
          go_wp2
          go_ret
          exact ⟨rfl, by rw [HB0.out]; exact HQ.out⟩
        · have q2' : decide (m.size ≤ z) = false := decide_eq_false q2
          go_wp2
          refine wp_region_wq (by kernel_rfl) (by kernel_rfl) ?_
          repeat (first
            | (refine WQ.skip (by rfl) ?_; simp only [Act.put, List.setIfInBounds_toArray, List.set_cons_succ, List.set_cons_zero])
            | (apply WQ.two (by rfl); (intro w' hw'; obtain ⟨pq, rfl⟩ := hw'; go_simp; first | exact rfl); simp only [Act.put, List.setIfInBounds_toArray, List.set_cons_succ, List.set_cons_zero]))
          refine WQ.nil ?_
          intro _ hw'
          obtain ⟨⟨dq, osq⟩, hw''⟩ := hw'
          subst hw''
          go_wp2
          go_roundw
          case rel => exact ⟨k + 1, by omega, by go_num, fun j v hj hv => by
            by_cases e : j < k
            · exact HA.out j v e hv
            · obtain rfl : j = k := by omega
              rw [HZ.out] at hv
              injection hv with hv
              subst hv
              exact ⟨by omega, by omega⟩, HB.out.trans ((below_regrown wr dq osq).mono hbz)⟩
          case measure => simp [intOf]; omega
    · obtain rfl : k = f.length := by omega
      have HFF := Lib.hid (show ∀ z ∈ f, 0 ≤ z ∧ z < m.size from fun z hz => by
        obtain ⟨j, hj⟩ := List.getElem?_of_mem hz
        exact HA.out j z (List.getElem?_eq_some_iff.1 hj).1 hj)
      obtain ⟨x0, x1, x2, x3, x4⟩ := D9.out.now.2.1
      go_wp2_with fail
      clear x0 x1 x2 x3 x4
      have CK := rLitCheck_any g x FX.out wr.heap.size ga gc wr (Nat.le_refl _) D9.out.now.2.2.2.1 D9.out.now.2.2.2.2.2.1
      rw [HCX.out] at CK
      refine CK.mono ?_
      clear CK
      rintro e w10 ⟨rfl, hb⟩
      have D10 := Lib.hid (D9.out.mv hb)
      clear hb D9
      obtain ⟨x0, x1, x2, x3, x4⟩ := D10.out.now.1
      go_wp2_with fail
      clear x0 x1 x2 x3 x4
      have CK := rLitCheck_any g y FY.out w10.heap.size ga gc w10 (Nat.le_refl _) D10.out.now.2.2.2.1 D10.out.now.2.2.2.2.2.2.1
      rw [HCY.out] at CK
      refine CK.mono ?_
      clear CK
      rintro e w11 ⟨rfl, hb⟩
      have D11 := Lib.hid (D10.out.mv hb)
      clear hb D10
      obtain ⟨x0, x1, x2, x3, x4⟩ := D11.out.now.2.1
      obtain ⟨i0, i1⟩ := D11.out.now.2.2.1
      go_wp2_with fail
      clear x0 x1 x2 x3 x4 i0 i1
      refine (worldLit_any g m HWR.out f HFF.out x (okV_of (errL_ok HCX.out).1) (okV_of (errL_ok HCX.out).2.1) w11.heap.size ma mc fa fc w11 (Nat.le_refl _) D11.out.now.2.2.2.2.1 D11.out.now.2.2.2.2.2.2.2.1 D11.out.now.2.2.2.2.2.1).mono ?_
      rintro e w12 ⟨rfl, hb⟩
      have D12 := Lib.hid (D11.out.mv hb)
      clear hb D11
      obtain ⟨x0, x1, x2, x3, x4⟩ := D12.out.now.1
      obtain ⟨i0, i1⟩ := D12.out.now.2.2.1
      go_wp2_with fail
      clear x0 x1 x2 x3 x4 i0 i1
      refine (worldLit_any g m HWR.out f HFF.out y (okV_of (errL_ok HCY.out).1) (okV_of (errL_ok HCY.out).2.1) w12.heap.size ma mc fa fc w12 (Nat.le_refl _) D12.out.now.2.2.2.2.1 D12.out.now.2.2.2.2.2.2.2.1 D12.out.now.2.2.2.2.2.2.1).mono ?_
      rintro e w13 ⟨rfl, hb⟩
      have D13 := Lib.hid (D12.out.mv hb)
      clear hb D12
      have F1 : samL x.n x.l x.r y.n y.l y.r = false ∨ (samL x.n x.l x.r y.n y.l y.r = true ∧ litB m f x.n x.l x.r = litB m f y.n y.l y.r) := by
        cases h : samL x.n x.l x.r y.n y.l y.r with
        | false => exact .inl rfl
        | true => exact .inr ⟨rfl, lit_samL h⟩
      have F2 : oppL x.n x.l x.r y.n y.l y.r = false ∨ (oppL x.n x.l x.r y.n y.l y.r = true ∧ litB m f x.n x.l x.r = !litB m f y.n y.l y.r) := by
        cases h : oppL x.n x.l x.r y.n y.l y.r with
        | false => exact .inl rfl
        | true => exact .inr ⟨rfl, lit_oppL h⟩
      have F3 : sameB x.l x.r = false ∨ (sameB x.l x.r = true ∧ (litB m f x.n x.l x.r == !x.n) = true) := by
        cases h : sameB x.l x.r with
        | false => exact .inl rfl
        | true => exact .inr ⟨rfl, by rw [lit_triv h]; simp⟩
      have S1 := Lib.hid (fun (W : World) (hW : Below w13.heap.size w13 W) => litSame_any x y FX.out W.heap.size W (Nat.le_refl _) (D13.out.mv hW).now.2.2.2.2.2.1 (D13.out.mv hW).now.2.2.2.2.2.2.1)
      have O1 := Lib.hid (fun (W : World) (hW : Below w13.heap.size w13 W) => litOpposite_any x y FX.out W.heap.size W (Nat.le_refl _) (D13.out.mv hW).now.2.2.2.2.2.1 (D13.out.mv hW).now.2.2.2.2.2.2.1)
      have T1 := Lib.hid (fun (W : World) (hW : Below w13.heap.size w13 W) => litTrivial_any x FX.out W.heap.size W (Nat.le_refl _) (D13.out.mv hW).now.2.2.2.2.2.1)
      generalize samL x.n x.l x.r y.n y.l y.r = sm at F1 S1
      generalize oppL x.n x.l x.r y.n y.l y.r = op at F2 O1
      generalize sameB x.l x.r = tv at F3 T1
      generalize litB m f x.n x.l x.r = P at F1 F2 F3 ⊢
      generalize litB m f y.n y.l y.r = Q at F1 F2 F3 ⊢
      have G2 := Lib.hid F2
      have G3 := Lib.hid F3
      clear F2 F3 FX FY HCX HCY HFF HWR HA HB
      go_wp2_with fail
      refine (awake9_any w13).mono ?_
      rintro e w14 ⟨rfl, hb⟩
      have HB14 := Lib.hid hb
      have D14 := Lib.hid (D13.out.mv hb)
      clear hb
      obtain ⟨y0, y1, y2, y3, y4⟩ := D14.out.now.1
      obtain ⟨x0, x1, x2, x3, x4⟩ := D14.out.now.2.1
      rcases F1 with rfl | ⟨rfl, rfl⟩
      all_goals
        go_wp2_with fail
        clear x0 x1 x2 x3 x4 y0 y1 y2 y3 y4
        refine (S1.out w14 HB14.out).mono ?_
        rintro e w15 ⟨rfl, hb⟩
        have HB15 := Lib.hid (HB14.out.trans (hb.mono HB14.out.size))
        have D15 := Lib.hid (D14.out.mv hb)
        clear hb D14
        obtain ⟨y0, y1, y2, y3, y4⟩ := D15.out.now.1
        obtain ⟨x0, x1, x2, x3, x4⟩ := D15.out.now.2.1
        rcases G2.out with rfl | ⟨rfl, h2⟩
        all_goals first
          | (exfalso; revert h2; cases P <;> decide)
          | (exfalso; revert h2; cases Q <;> decide)
          | subst h2
          | skip
        all_goals
          go_wp2_with fail
          clear x0 x1 x2 x3 x4 y0 y1 y2 y3 y4
          refine (O1.out w15 HB15.out).mono ?_
          rintro e w16 ⟨rfl, hb⟩
          have HB16 := Lib.hid (HB15.out.trans (hb.mono HB15.out.size))
          have D16 := Lib.hid (D15.out.mv hb)
          clear hb D15
          obtain ⟨x0, x1, x2, x3, x4⟩ := D16.out.now.2.1
          rcases G3.out with rfl | ⟨rfl, h3⟩
          all_goals
            go_wp2_with fail
            clear x0 x1 x2 x3 x4
            refine (T1.out w16 HB16.out).mono ?_
            rintro e w17 ⟨rfl, hb⟩
            have D17 := Lib.hid (D16.out.mv hb)
            have HQ := Lib.hid D17.out.now.2.2.2.2.2.2.2.2
            obtain ⟨x0, x1, x2, x3, x4⟩ := D17.out.now.2.1
            clear hb D16 D17
            go_wp2
            go_ret
            exact ⟨rfl, by rw [HB0.out]; exact HQ.out⟩

end Go.Proofs.Ytleohdddaadbeaa
