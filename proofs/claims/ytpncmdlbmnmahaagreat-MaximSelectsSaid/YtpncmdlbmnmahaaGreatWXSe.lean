/- The walk of MaximSelects. -/
import Derived.Test.YtpncmdlbmnmahaaGreatAw11
namespace Go.Proofs.YtpncmdlbmnmahaaGreat
set_option linter.unusedVariables false
set_option linter.unusedSimpArgs false
open Go.RowKit
def SlI (C : List Lt3) (w : World) (av kv : Value) (wr : World) : Prop := ∃ k : Nat, k ≤ C.length ∧ kv = .int .i64 k ∧ av = .bool ((C.take k).any (·.neg)) ∧ wr = w
def SlJ (L : List Int) (w : World) (kv : Value) (wr : World) : Prop := ∃ k : Nat, k ≤ L.length ∧ kv = .int .i64 k ∧ wr = w
theorem any_snoc11 {C : List Lt3} {k : Nat} {x : Lt3} (h : C[k]? = some x) : (C.take (k + 1)).any (·.neg) = ((C.take k).any (·.neg) || x.neg) := by
  rw [List.take_add_one, h]
  simp
set_option maxRecDepth 100000 in
set_option maxHeartbeats 8000000 in
theorem maximSelects_walk (g : Sg) (P : List LV) (how i : Int) (ga : Option Addr) (gc : Nat) (pa : Option Addr) (ca : Nat) (w : World) (hwh : (Lit.int .i64 how).wf = true) (hwi : (Lit.int .i64 i).wf = true) (hG : IsSg w.heap.size w g ga gc) (hP : IsCl w.heap.size w P pa ca) :
    Calls Tryz.prog 6 #[.slice ga g.length gc, .slice pa P.length ca, .int .i64 how, .int .i64 i] w fun e w' => e = .returned (.bool true) ∧ Below w.heap.size w w' := by
  have hlc : P.length ≤ ca ∧ ca ≤ maxLen := ⟨hP.1, hP.2.1⟩
  unfold maxLen at hlc
  obtain ⟨hl1, hl2⟩ := hlc
  have D := Lib.hid (((Later.below (Below.refl _ w)).and (later_cl hP)).and (later_sg hG))
  have HL := Lib.hid (show (t3s P).length = P.length from by simp)
  clear hG hP hwh hwi
  go_enter Tryz.func6, Tryz.ntmps6
  go_wp2_with fail
  refine (few11_any g P w.heap.size ga gc pa ca w (Nat.le_refl _) D.out.now.1 D.out.now.2.1).mono ?_
  rintro e w2 ⟨b, rfl, hf, hb⟩
  have D2 := Lib.hid (D.out.mv hb)
  clear hb D
  cases b with
  | false =>
    have HQ := Lib.hid D2.out.now.2.2
    clear D2 hf
    go_wp2
    go_ret
    exact ⟨rfl, HQ.out⟩
  | true =>
  have HSZ := Lib.hid (show ∀ x ∈ P, x.sz from (hf rfl).1.sz)
  clear hf
  go_wp2_with fail
  refine (xSelect_any g P HSZ.out how w2.heap.size ga gc pa ca w2 (Nat.le_refl _) D2.out.now.1 D2.out.now.2.1).mono ?_
  rintro e w3 ⟨p3, c3, rfl, hI, hb⟩
  have D3 := Lib.hid ((D2.out.mv hb).and (later_is hI))
  clear hb D2 hI
  by_cases he : seE g (t3s P) how = 0
  case neg =>
    have HN := Lib.hid (show seL g (t3s P) how = [] from by
      by_cases h : errC g (t3s P) = 0
      · by_cases h2 : 0 ≤ how ∧ how ≤ 2
        · exact absurd (se_ok h h2).1 he
        · exact (se_out h h2).2
      · exact (se_bad h).2)
    obtain ⟨k, hk⟩ : ∃ k, seE g (t3s P) how = k := ⟨_, rfl⟩
    rw [hk] at he ⊢
    rw [HN.out]
    have h2 : (k != 0) = true := by simpa using he
    clear he hk
    go_wp2_with fail
    refine (awake11_any w3).mono ?_
    rintro e w4 ⟨rfl, hb⟩
    have HQ := Lib.hid (D3.out.mv hb).now.2.2.2
    clear hb D3
    go_wp2
    go_ret
    exact ⟨rfl, HQ.out⟩
  have HE := Lib.hid he
  have HPL := Lib.hid (show seL g (t3s P) how = pickL g (t3s P) how from (se_ok (seE_zero he).1 (seE_zero he).2).2)
  have HMY := Lib.hid (my_nil (i := i) he)
  have HPS := Lib.hid (pick_some g (t3s P) how)
  have HPM := Lib.hid (fun b => pick_mem (g := g) (C := t3s P) (how := how) (b := b))
  have HP1 := Lib.hid (pick_len g (t3s P) how)
  rw [he]
  clear he
  rw [HPL.out] at D3 ⊢
  generalize pickL g (t3s P) how = L at D3 HMY HPS HPM HP1 ⊢
  have hll : L.length ≤ 1 := HP1.out
  have hlc3 : L.length ≤ c3 ∧ c3 ≤ maxLen := ⟨D3.out.now.1.1, D3.out.now.1.2.1⟩
  unfold maxLen at hlc3
  obtain ⟨hc1, hc2⟩ := hlc3
  go_wp2
  go_loopw [11, 12] (fun av kv wr => SlI (t3s P) w3 av kv wr) (fun _ kv _ => P.length - (intOf kv).toNat)
  case atStart => exact ⟨0, Nat.zero_le _, rfl, rfl, rfl⟩
  case round =>
    obtain ⟨k, hk, rfl, rfl, rfl⟩ := hrel
    rw [HL.out] at hk
    by_cases hlt : k < P.length
    · obtain ⟨b, o, x, rfl, hb, hx, ⟨a0, _⟩, _⟩ := D3.out.now.2.2.1.elem (i := k) hlt
      have hk0 : (0 : Int) ≤ (k : Int) := Int.natCast_nonneg _
      have hk1 : (k : Int) < (P.length : Int) := by omega
      have HN := Lib.hid (any_snoc11 (t3s_get hx))
      have HX := Lib.hid (show x.t3.neg = x.n from rfl)
      clear hx
      generalize ((t3s P).take k).any (·.neg) = q at HN ⊢
      rw [HX.out] at HN
      cases q with
      | true =>
        rw [Bool.true_or] at HN
        go_wp2
        go_roundw
        case rel => exact ⟨k + 1, by rw [HL.out]; omega, by go_num, by rw [HN.out], rfl⟩
        case measure => simp [intOf]; omega
      | false =>
        rw [Bool.false_or] at HN
        generalize x.n = xn at a0 HN
        go_wp2
        go_roundw
        case rel => exact ⟨k + 1, by rw [HL.out]; omega, by go_num, by rw [HN.out], rfl⟩
        case measure => simp [intOf]; omega
    · obtain rfl : k = P.length := by omega
      have hany : ((t3s P).take P.length).any (·.neg) = (t3s P).any (·.neg) := by rw [List.take_of_length_le (by rw [HL.out]; exact Nat.le_refl _)]
      rw [hany]
      clear hany
      have hps := HPS.out
      generalize (t3s P).any (·.neg) = an at hps ⊢
      obtain ⟨w5, rfl⟩ : ∃ w5, w5 = wr := ⟨_, rfl⟩
      go_upto_region 11 with fail
      go_cut [62] from 49 to 62 (fun v62 wx => v62 = .bool false ∧ wx = w5)
      case first =>
        clear HMY HPM HP1 HPS
        have hl1' : decide ((1 : Int) < (L.length : Int)) = false := decide_eq_false (by omega)
        by_cases hl : 0 < L.length
        · rw [decide_eq_true hl] at hps
          have hl' : (0 : Int) < (L.length : Int) := by omega
          obtain ⟨rfl, hh⟩ : an = true ∧ how ≠ 0 := by
            have h := hps.symm
            rw [Bool.and_eq_true, decide_eq_true_eq] at h
            exact h
          have hh' : (how != 0) = true := bne_iff_ne.2 hh
          clear hps hl hh
          go_wp2_with fail
          go_meet
          exact ⟨rfl, rfl⟩
        · rw [decide_eq_false hl] at hps
          obtain rfl : L = [] := List.eq_nil_of_length_eq_zero (by omega)
          clear hl hl1'
          cases an with
          | false =>
            clear hps
            go_wp2_with fail
            go_meet
            exact ⟨rfl, rfl⟩
          | true =>
            have hh : how = 0 := by
              have h := hps.symm
              rw [Bool.true_and, decide_eq_false_iff_not] at h
              omega
            subst hh
            clear hps
            go_wp2_with fail
            go_meet
            exact ⟨rfl, rfl⟩
      case rest =>
        obtain ⟨rfl, rfl⟩ := hcut
        obtain ⟨w5, rfl⟩ : ∃ w5, w5 = wc := ⟨_, rfl⟩
        clear hps HPS hll
        go_wp2
        go_loopw [13] (fun kv wr => SlJ L w5 kv wr) (fun kv _ => L.length - (intOf kv).toNat)
        case atStart => exact ⟨0, Nat.zero_le _, rfl, rfl⟩
        case round =>
          obtain ⟨k, hk, rfl, rfl⟩ := hrel
          by_cases hkl : k < L.length
          · obtain ⟨b1, o1, z, rfl, hb1, hz, hcz⟩ := D3.out.now.1.elem (k := k) hkl
            obtain ⟨j, rfl, hj, hjn, -⟩ := HPM.out z (List.mem_of_getElem? hz)
            rw [HL.out] at hj
            obtain ⟨b, o, x, rfl, hb, hx, ⟨a0, _⟩, _⟩ := D3.out.now.2.2.1.elem (i := j) hj
            rw [getD_of (t3s_get hx)] at hjn
            rw [show x.n = true from hjn] at a0
            have hk0 : (0 : Int) ≤ (k : Int) := Int.natCast_nonneg _
            have hk1 : (k : Int) < (L.length : Int) := by omega
            have hj0 : (0 : Int) ≤ (j : Int) := Int.natCast_nonneg _
            have hj1 : (j : Int) < (P.length : Int) := by omega
            have hj2 : decide ((j : Int) < 0) = false := decide_eq_false (by omega)
            have hj3 : decide ((P.length : Int) ≤ (j : Int)) = false := decide_eq_false (by omega)
            clear hx hjn hz
            go_wp2
            go_roundw
            case rel => exact ⟨k + 1, by omega, by go_num, rfl⟩
            case measure => simp [intOf]; omega
          · obtain rfl : k = L.length := by omega
            clear hkl hk
            go_wp2_with fail
            refine (xMay_any g P HSZ.out how i [] (by simp) wr.heap.size ga gc pa ca none 0 wr (Nat.le_refl _) D3.out.now.2.1 D3.out.now.2.2.1 (bs_nil _ _)).mono ?_
            rintro e w6 ⟨rfl, hb⟩
            have D6 := Lib.hid (D3.out.mv hb)
            clear hb
            have hmy := HMY.out
            clear HMY D3
            rcases hmy with ⟨hi, hme⟩ | ⟨hi, hme, hmr⟩
            · rw [hme]
              clear hme
              generalize myR g (t3s P) how i [] = mr
              have hi' : i < 0 ∨ (¬ i < 0 ∧ (P.length : Int) ≤ i) := by
                simp [idxB] at hi
                omega
              clear hi
              go_wp2_with fail
              refine (awake11_any w6).mono ?_
              rintro e w7 ⟨rfl, hb⟩
              have HQ := Lib.hid (D6.out.mv hb).now.2.2.2
              clear hb D6
              rcases hi' with h | ⟨h0, h⟩
              · go_wp2
                go_ret
                exact ⟨rfl, HQ.out⟩
              · have h0' : decide (i < 0) = false := decide_eq_false (by omega)
                clear h0
                go_wp2
                go_ret
                exact ⟨rfl, HQ.out⟩
            · rw [hme]
              clear hme hi
              rcases hmr with rfl | ⟨b, rfl, hmr⟩
              · generalize myR g (t3s P) how i [] = mr
                go_wp2_with fail
                refine (awake11_any w6).mono ?_
                rintro e w7 ⟨rfl, hb⟩
                have HQ := Lib.hid (D6.out.mv hb).now.2.2.2
                clear hb D6
                go_wp2
                go_ret
                exact ⟨rfl, HQ.out⟩
              · rw [hmr]
                clear hmr
                go_wp2_with fail
                refine (awake11_any w6).mono ?_
                rintro e w7 ⟨rfl, hb⟩
                have D7 := Lib.hid (D6.out.mv hb)
                have HQ := Lib.hid D7.out.now.2.2.2
                clear hb D6
                obtain ⟨b1, o1, z, rfl, hb1, hz, hcz⟩ := D7.out.now.1.elem (k := 0) (by simp)
                simp only [List.getElem?_cons_zero, Option.some.injEq] at hz
                subst hz
                rw [Nat.add_zero] at hcz
                by_cases hbi : b = i
                · subst hbi
                  go_wp2
                  go_ret
                  exact ⟨by simp, HQ.out⟩
                · have hbi' : (b == i) = false := beq_eq_false_iff_ne.2 hbi
                  have hd : decide (b = i) = false := decide_eq_false hbi
                  rw [hd]
                  clear hd
                  go_wp2
                  go_ret
                  exact ⟨by simp, HQ.out⟩
end Go.Proofs.YtpncmdlbmnmahaaGreat
