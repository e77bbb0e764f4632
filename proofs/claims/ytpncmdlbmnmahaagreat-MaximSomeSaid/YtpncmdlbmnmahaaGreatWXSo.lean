/- The walk of MaximSome. -/
import Derived.Test.YtpncmdlbmnmahaaGreatAw11
namespace Go.Proofs.YtpncmdlbmnmahaaGreat
set_option linter.unusedVariables false
set_option linter.unusedSimpArgs false
open Go.RowKit
def smC (g : Sg) (C : List Lt3) (i : Nat) : Bool := decide (C.length = 0) || (List.range i).any (fun j => topC g C j false)
theorem smC_next (g : Sg) (C : List Lt3) (i : Nat) : smC g C (i + 1) = (smC g C i || topC g C i false) := by
  unfold smC
  rw [List.range_succ, List.any_append, Bool.or_assoc]
  simp
theorem smC_all (g : Sg) (C : List Lt3) : smC g C C.length = true := by
  unfold smC
  by_cases h : C = []
  · subst h; rfl
  · obtain ⟨i, hi, ht⟩ := top_some (g := g) h
    rw [Bool.or_eq_true]
    exact .inr (List.any_eq_true.2 ⟨i, List.mem_range.2 hi, ht⟩)
theorem mx_at {g : Sg} {C : List Lt3} {i : Nat} (h : errC g C = 0) (hi : i < C.length) (st : Bool) : mxE g C i = 0 ∧ mxR g C i st = topC g C i st := by
  have h2 := mx_ok (st := st) h (show idxB C i = true from by simp [idxB]; omega)
  rw [Int.toNat_natCast] at h2
  exact h2
def SoI (g : Sg) (C : List Lt3) (w : World) (sv iv : Value) (wr : World) : Prop := ∃ i : Nat, i ≤ C.length ∧ iv = .int .i64 i ∧ sv = .bool (smC g C i) ∧ Below w.heap.size w wr
def SoJ (C : List Lt3) (w : World) (kv : Value) (wr : World) : Prop := ∃ k : Nat, k ≤ C.length ∧ kv = .int .i64 k ∧ Below w.heap.size w wr
set_option maxRecDepth 100000 in
set_option maxHeartbeats 8000000 in
theorem maximSome_walk (g : Sg) (P : List LV) (ga : Option Addr) (gc : Nat) (pa : Option Addr) (ca : Nat) (w : World) (hG : IsSg w.heap.size w g ga gc) (hP : IsCl w.heap.size w P pa ca) :
    Calls Tryz.prog 4 #[.slice ga g.length gc, .slice pa P.length ca] w fun e w' => e = .returned (.bool true) ∧ Below w.heap.size w w' := by
  have hlc : P.length ≤ ca ∧ ca ≤ maxLen := ⟨hP.1, hP.2.1⟩
  unfold maxLen at hlc
  obtain ⟨hl1, hl2⟩ := hlc
  have D := Lib.hid (((Later.below (Below.refl _ w)).and (later_cl hP)).and (later_sg hG))
  have HL := Lib.hid (show (t3s P).length = P.length from by simp)
  clear hG hP
  go_enter Tryz.func4, Tryz.ntmps4
  go_wp2_with fail
  refine (few11_any g P w.heap.size ga gc pa ca w (Nat.le_refl _) D.out.now.1 D.out.now.2.1).mono ?_
  rintro e w2 ⟨b, rfl, hf, hb⟩
  have D2 := Lib.hid (D.out.mv hb)
  clear hb D
  cases b with
  | false =>
    have HQ := Lib.hid D2.out.now.2.2
    clear D2 hf
    go_wp2
    go_ret
    exact ⟨rfl, HQ.out⟩
  | true =>
  have HSZ := Lib.hid (show ∀ x ∈ P, x.sz from (hf rfl).1.sz)
  clear hf
  by_cases h10 : 10 < P.length
  · have h10' : (10 : Int) < (P.length : Int) := by omega
    have HQ := Lib.hid D2.out.now.2.2
    clear D2 h10
    go_wp2
    go_ret
    exact ⟨rfl, HQ.out⟩
  have h10' : decide ((10 : Int) < (P.length : Int)) = false := decide_eq_false (by omega)
  clear h10
  go_wp2_with fail
  refine (cCheck_any g P HSZ.out w2.heap.size ga gc pa ca w2 (Nat.le_refl _) D2.out.now.1 D2.out.now.2.1).mono ?_
  rintro e w3 ⟨rfl, hb⟩
  have D3 := Lib.hid (D2.out.mv hb)
  clear hb D2
  by_cases he : errC g (t3s P) = 0
  case neg =>
    obtain ⟨k, hk⟩ : ∃ k, errC g (t3s P) = k := ⟨_, rfl⟩
    rw [hk] at he ⊢
    have h2 : (k != 0) = true := by simpa using he
    clear he hk
    go_wp2_with fail
    refine (awake11_any w3).mono ?_
    rintro e w4 ⟨rfl, hb⟩
    have HQ := Lib.hid (D3.out.mv hb).now.2.2
    clear hb D3
    go_wp2
    go_ret
    exact ⟨rfl, HQ.out⟩
  have HE := Lib.hid he
  rw [he]
  clear he
  have HOK := Lib.hid (show ∀ x ∈ P, errL g x.l x.r = 0 from fun x hx => (errC_ok HE.out).2.2 x.t3 (List.mem_map.2 ⟨x, hx, rfl⟩))
  obtain ⟨q0, hq0⟩ : ∃ q0, ((P.length : Int) == 0) = q0 := ⟨_, rfl⟩
  have HQ0 := Lib.hid (show smC g (t3s P) 0 = q0 from by
    rw [← hq0]
    unfold smC
    rw [HL.out]
    simp only [List.range_zero, List.any_nil, Bool.or_false]
    rw [Bool.eq_iff_iff, decide_eq_true_eq, beq_iff_eq]
    omega)
  go_wp2
  clear hq0
  go_loopw [5, 6] (fun sv iv wr => SoI g (t3s P) w3 sv iv wr) (fun _ iv _ => P.length - (intOf iv).toNat)
  case atStart => exact ⟨0, Nat.zero_le _, rfl, by rw [HQ0.out], Below.refl _ _⟩
  case round =>
    obtain ⟨i, hi, rfl, rfl, hB⟩ := hrel
    rw [HL.out] at hi
    have DR := Lib.hid (D3.out.mv hB)
    have HB := Lib.hid hB
    have hbz := hB.size
    clear hB
    obtain ⟨wo, rfl⟩ : ∃ wo, wo = wr := ⟨_, rfl⟩
    by_cases hlt : i < P.length
    · have hi0 : (0 : Int) ≤ (i : Int) := Int.natCast_nonneg _
      have hi1 : (i : Int) < (P.length : Int) := by omega
      have HX := Lib.hid (mx_at HE.out (by rw [HL.out]; exact hlt : i < (t3s P).length) false)
      have HY := Lib.hid (mx_at HE.out (by rw [HL.out]; exact hlt : i < (t3s P).length) true)
      have M1 := Lib.hid (show ∀ W, Below wo.heap.size wo W → Calls Tryz.prog 9 #[.slice ga g.length gc, .slice pa P.length ca, .int .i64 i, .bool false] W (fun e w' => e = .returned (.tuple #[.bool (topC g (t3s P) i false), .int .i64 0]) ∧ Below W.heap.size W w') from fun W hW => by
        have h := xMaximal_any g P HSZ.out i false W.heap.size ga gc pa ca W (Nat.le_refl _) (DR.out.mv hW).now.1 (DR.out.mv hW).now.2.1
        unfold MxPost at h
        rw [HX.out.1, HX.out.2] at h
        exact h)
      have M2 := Lib.hid (show ∀ W, Below wo.heap.size wo W → Calls Tryz.prog 9 #[.slice ga g.length gc, .slice pa P.length ca, .int .i64 i, .bool true] W (fun e w' => e = .returned (.tuple #[.bool (topC g (t3s P) i true), .int .i64 0]) ∧ Below W.heap.size W w') from fun W hW => by
        have h := xMaximal_any g P HSZ.out i true W.heap.size ga gc pa ca W (Nat.le_refl _) (DR.out.mv hW).now.1 (DR.out.mv hW).now.2.1
        unfold MxPost at h
        rw [HY.out.1, HY.out.2] at h
        exact h)
      have HW := Lib.hid (top_weak (g := g) (C := t3s P) (i := i))
      have HM := Lib.hid (fun (k : Nat) (x z : Lt3) => top_more (g := g) (C := t3s P) (i := i) (k := k) (x := x) (z := z))
      have HS := Lib.hid (fun (k : Nat) (x z : Lt3) => top_same (g := g) (C := t3s P) (i := i) (k := k) (x := x) (z := z))
      have HN := Lib.hid (smC_next g (t3s P) i)
      generalize topC g (t3s P) i false = tx at M1 HW HM HN
      generalize topC g (t3s P) i true = ty at M2 HW HS
      generalize smC g (t3s P) i = sm at HN
      go_wp2_with fail
      refine (M1.out wo (Below.refl _ _)).mono ?_
      rintro e w4 ⟨rfl, hb⟩
      have HB4 := Lib.hid hb
      clear hb
      go_wp2_with fail
      refine (M2.out w4 HB4.out).mono ?_
      rintro e w5 ⟨rfl, hb⟩
      have HB5 := Lib.hid (HB4.out.trans (hb.mono HB4.out.size))
      clear hb M1 M2 HB4 HX HY
      have DQ := Lib.hid (DR.out.mv HB5.out)
      have HBW := Lib.hid (HB.out.trans (HB5.out.mono hbz))
      have hxy : (tx = true ∧ ty = true) ∨ (tx = true ∧ ty = false) ∨ (tx = false ∧ ty = false) := by
        have h := HW.out
        revert h
        cases tx <;> cases ty <;> simp
      obtain ⟨sn, hsn⟩ : ∃ sn, smC g (t3s P) (i + 1) = sn := ⟨_, rfl⟩
      have HSN := Lib.hid hsn
      rw [hsn] at HN
      clear hsn HW DR HB5
      go_upto_region 11 with fail
      go_cut [63] from 51 to 63 (fun v63 wx => v63 = .bool false ∧ wx = w5)
      case first =>
        clear HM HS HN HSN
        rcases hxy with ⟨rfl, rfl⟩ | ⟨rfl, rfl⟩ | ⟨rfl, rfl⟩
        all_goals
          go_wp2_with fail
          go_meet
          exact ⟨rfl, rfl⟩
      case rest =>
        obtain ⟨rfl, rfl⟩ := hcut
        obtain ⟨w5, rfl⟩ : ∃ w5, w5 = wc := ⟨_, rfl⟩
        go_upto_region 13 with fail
        go_cut [5] from 64 to 67 (fun v5 wx => v5 = .bool sn ∧ wx = w5)
        case first =>
          clear HM HS HSN
          have hn := HN.out
          clear HN
          cases sm
          all_goals
            subst hn
            go_wp2_with fail
            go_meet
            exact ⟨by simp, rfl⟩
        case rest =>
          obtain ⟨rfl, rfl⟩ := hcut
          obtain ⟨w5, rfl⟩ : ∃ w5, w5 = wc := ⟨_, rfl⟩
          have HXY := Lib.hid hxy
          clear hxy HN
          go_wp2
          go_loopw [11] (fun kv wr => SoJ (t3s P) w5 kv wr) (fun kv _ => P.length - (intOf kv).toNat)
          case atStart => exact ⟨0, Nat.zero_le _, rfl, Below.refl _ _⟩
          case round =>
            obtain ⟨k, hk, rfl, hB2⟩ := hrel
            rw [HL.out] at hk
            have HB2 := Lib.hid hB2
            have hbz2 := hB2.size
            clear hB2
            by_cases hkl : k < P.length
            · obtain ⟨b, o, x, rfl, hb, hx, ⟨a0, a1, a2, a3, a4⟩, hxl⟩ := (DQ.out.mv HB2.out).now.2.1.elem (i := k) hkl
              obtain ⟨b', o', y, e', hb', hy, ⟨y0, y1, y2, y3, y4⟩, hyl⟩ := (DQ.out.mv HB2.out).now.2.1.elem (i := i) hlt
              simp only [Option.some.injEq, Addr.mk.injEq, and_true] at e'
              obtain ⟨rfl, rfl⟩ := e'
              have hk0 : (0 : Int) ≤ (k : Int) := Int.natCast_nonneg _
              have hk1 : (k : Int) < (P.length : Int) := by omega
              have hxs := HSZ.out x (List.mem_of_getElem? hx)
              have hys := HSZ.out y (List.mem_of_getElem? hy)
              have HEX := Lib.hid (lc_stand (g := g) (x := x) (y := y) (HOK.out x (List.mem_of_getElem? hx)) (HOK.out y (List.mem_of_getElem? hy)))
              have HK1 := Lib.hid (fun h => HM.out k _ _ h (t3s_get hx) (t3s_get hy))
              have HK2 := Lib.hid (fun h h2 => HS.out k _ _ h h2 (t3s_get hx) (t3s_get hy))
              obtain ⟨n, hn⟩ : ∃ n, standL g x.t3 y.t3 = n := ⟨_, rfl⟩
              have CE := Lib.hid (fun (W : World) (hW : Below wr.heap.size wr W) => show Calls Tryz.prog 18 #[.slice ga g.length gc, x.v, y.v] W (fun e w' => e = .returned (.tuple #[.int .i64 n, .int .i64 0]) ∧ Below W.heap.size W w') from by
                have h := litCompare_any g x y hxs hys wr.heap.size ga gc W hW.size ((DQ.out.mv HB2.out).now.1.below hW) (hxl.below hW) (hyl.below hW)
                rw [HEX.out.1, HEX.out.2, hn] at h
                exact h)
              rw [hn] at HK1 HK2
              have f0 := fun d os => cell_regrown a0 d os
              have f1 := fun d os => cell_regrown a1 d os
              have f2 := fun d os => cell_regrown a2 d os
              have f3 := fun d os => cell_regrown a3 d os
              have f4 := fun d os => cell_regrown a4 d os
              have g0 := fun d os => cell_regrown y0 d os
              have g1 := fun d os => cell_regrown y1 d os
              have g2 := fun d os => cell_regrown y2 d os
              have g3 := fun d os => cell_regrown y3 d os
              have g4 := fun d os => cell_regrown y4 d os
              clear hx hy hxl hyl hn hxs hys HEX
              go_wp2
              refine wp_region_wq (by kernel_rfl) (by kernel_rfl) ?_
              repeat (first
                | (refine WQ.skip (by rfl) ?_; simp only [Act.put, List.setIfInBounds_toArray, List.set_cons_succ, List.set_cons_zero])
                | (apply WQ.two (by rfl); (intro w' hw'; obtain ⟨pq, rfl⟩ := hw'; go_simp; first | (with_reducible exact Calls.regrown_of (CE.out _ (below_regrown _ _ _))) | exact rfl); simp only [Act.put, List.setIfInBounds_toArray, List.set_cons_succ, List.set_cons_zero]))
              refine WQ.nil ?_
              intro w6 hw'
              have HB3 := Lib.hid (show Below w5.heap.size w5 w6 from by
                obtain ⟨⟨dq, osq⟩, rfl⟩ := hw'
                exact HB2.out.trans ((below_regrown wr dq osq).mono hbz2))
              clear hw' CE f0 f1 f2 f3 f4 g0 g1 g2 g3 g4 a0 a1 a2 a3 a4 y0 y1 y2 y3 y4
              go_upto_region 18 with fail
              go_cut [107] from 87 to 107 (fun v107 wx => v107 = .bool false ∧ wx = w6)
              case first =>
                have hxy := HXY.out
                rcases hxy with ⟨rfl, rfl⟩ | ⟨rfl, rfl⟩ | ⟨rfl, rfl⟩
                · have h1 : (n == 1) = false := beq_eq_false_iff_ne.2 (HK1.out rfl)
                  by_cases hki : k = i
                  · subst hki
                    clear HK1 HK2
                    go_wp2_with fail
                    go_meet
                    exact ⟨rfl, rfl⟩
                  · have h0 : (n == 0) = false := beq_eq_false_iff_ne.2 (HK2.out rfl hki)
                    have hki' : ((k : Int) != (i : Int)) = true := bne_iff_ne.2 (by omega)
                    clear HK1 HK2 hki
                    go_wp2_with fail
                    go_meet
                    exact ⟨rfl, rfl⟩
                · have h1 : (n == 1) = false := beq_eq_false_iff_ne.2 (HK1.out rfl)
                  clear HK1 HK2
                  go_wp2_with fail
                  go_meet
                  exact ⟨rfl, rfl⟩
                · clear HK1 HK2
                  go_wp2_with fail
                  go_meet
                  exact ⟨rfl, rfl⟩
              case rest =>
                obtain ⟨rfl, rfl⟩ := hcut
                clear HK1 HK2
                go_wp2
                go_roundw
                case rel => exact ⟨k + 1, by rw [HL.out]; omega, by go_num, HB3.out⟩
                case measure => simp [intOf]; omega
            · obtain rfl : k = P.length := by omega
              have HR := Lib.hid (HBW.out.trans (HB2.out.mono HBW.out.size))
              go_wp2
              go_roundw
              case rel => exact ⟨i + 1, by rw [HL.out]; omega, by go_num, by rw [HSN.out], HR.out⟩
              case measure => simp [intOf]; omega
    · obtain rfl : i = P.length := by omega
      have HA := Lib.hid (show smC g (t3s P) P.length = true from by
        have h := smC_all g (t3s P)
        rwa [HL.out] at h)
      rw [HA.out]
      have HQ := Lib.hid DR.out.now.2.2
      clear DR HB hbz D3
      go_wp2_with fail
      refine (awake11_any wo).mono ?_
      rintro e w7 ⟨rfl, hb⟩
      have HF := Lib.hid (HQ.out.trans (hb.mono HQ.out.size))
      clear hb
      go_wp2
      go_ret
      exact ⟨rfl, HF.out⟩
end Go.Proofs.YtpncmdlbmnmahaaGreat
