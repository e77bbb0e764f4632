/- Contract of the document's May. -/
import Derived.Test.YtpncmdlbmnmahaaGreatMr1
import Derived.Test.YtpncmdlbmnmahaaGreatMr2
import Derived.Test.YtpncmdlbmnmahaaGreatMr3
import Derived.Test.YtpncmdlbmnmahaaGreatQBp
namespace Go.Proofs.YtpncmdlbmnmahaaGreat
set_option linter.unusedVariables false
set_option linter.unusedSimpArgs false
open Go.RowKit
set_option maxRecDepth 100000 in
set_option maxHeartbeats 8000000 in
theorem rMay_any (g : Sg) (P : List LV) (hsz : ∀ x ∈ P, x.sz) (how i : Int) (s : Sb) (hss : ∀ x ∈ s, x.2.size ≤ 1000000000000) (n₀ : Nat) (ga : Option Addr) (gc : Nat) (a : Option Addr) (c : Nat) (sa : Option Addr) (sc : Nat) (w : World) (hn : n₀ ≤ w.heap.size) (hG : IsSg n₀ w g ga gc) (hP : IsCl n₀ w P a c) (hS : IsBs n₀ w s sa sc) :
    Calls Tryz.prog 14 #[.slice ga g.length gc, .slice a P.length c, .int .i64 how, .int .i64 i, .slice sa s.length sc] w (MyPost g (t3s P) how i s w) := by
  have hlc : P.length ≤ c ∧ c ≤ maxLen := ⟨hP.1, hP.2.1⟩
  unfold maxLen at hlc
  obtain ⟨hl1, hl2⟩ := hlc
  have HSZ := Lib.hid hsz
  have HSS := Lib.hid hss
  have HP := Lib.hid (hP.mono hn)
  have HG := Lib.hid (hG.mono hn)
  have HS := Lib.hid (hS.mono hn)
  clear hP hG hS hsz hss
  go_enter Tryz.func14, Tryz.ntmps14
  go_wp2_with fail
  refine (rSelect_any g P HSZ.out how w.heap.size ga gc a c w (Nat.le_refl _) HG.out HP.out).mono ?_
  rintro e w2 ⟨p2, c2, rfl, hI2, hb⟩
  have HB2 := Lib.hid hb
  have HI2 := Lib.hid hI2
  clear hb hI2
  by_cases he : seE g (t3s P) how = 0
  case neg =>
    have HE := Lib.hid (my_sel (i := i) (s := s) he)
    obtain ⟨k, hk⟩ : ∃ k, seE g (t3s P) how = k := ⟨_, rfl⟩
    rw [hk] at he HE ⊢
    have h2 : (k != 0) = true := by simpa using he
    clear he hk
    generalize (seL g (t3s P) how).length = n2
    go_wp2
    refine bodyPost_ret (v := .tuple #[.bool false, .int .i64 k]) (by simp [results, Tryz.results14, go_sem]) rfl ?_
    exact ⟨by rw [HE.out.1, HE.out.2], HB2.out⟩
  have HE := Lib.hid he
  have HL := Lib.hid (show seL g (t3s P) how = pickL g (t3s P) how from (se_ok (seE_zero he).1 (seE_zero he).2).2)
  have HIP := Lib.hid (show IsIs w2.heap.size w2 (pickL g (t3s P) how) p2 c2 from by rw [← HL.out]; exact HI2.out)
  rw [he, HL.out]
  clear he HI2
  obtain ⟨L, hL⟩ : ∃ L, pickL g (t3s P) how = L := ⟨_, rfl⟩
  have HPL := Lib.hid hL
  rw [hL] at HIP ⊢
  clear hL
  have HB3 := HB2
  have HB23 := Lib.hid (Below.refl w2.heap.size w2)
  obtain ⟨w3, rfl⟩ : ∃ w3, w3 = w2 := ⟨_, rfl⟩
  cases hi : idxB (t3s P) i with
  | false =>
    have HR := Lib.hid (my_out (s := s) HE.out hi)
    have hi' : i < 0 ∨ (¬ i < 0 ∧ (P.length : Int) ≤ i) := by
      simp [idxB] at hi
      omega
    clear hi
    rcases hi' with hi | ⟨hj, hi⟩
    all_goals
      try have hj' : decide (i < 0) = false := decide_eq_false hj
      try clear hj
      go_wp2
      refine bodyPost_ret (v := .tuple #[.bool false, .int .i64 1]) (by simp [results, Tryz.results14, go_sem]) rfl ?_
      exact ⟨by rw [HR.out.1, HR.out.2], HB3.out⟩
  | true =>
    have HIX := Lib.hid hi
    obtain ⟨j, rfl, hj⟩ : ∃ j : Nat, i = j ∧ j < P.length := by
      simp [idxB] at hi
      exact ⟨i.toNat, by omega, by omega⟩
    clear hi
    have hj0 : decide ((j : Int) < 0) = false := decide_eq_false (by omega)
    have hj1 : decide ((P.length : Int) ≤ (j : Int)) = false := decide_eq_false (by omega)
    go_wp2_with fail
    refine (rApply10_any s HSS.out P HSZ.out w.heap.size sa sc a c w3 HB3.out.size (HS.out.below HB3.out) (HP.out.below HB3.out)).mono ?_
    rintro e w4 ⟨O, p4, c4, hO, rfl, hcl, hb⟩
    have HO := Lib.hid hO
    have HCL := Lib.hid hcl
    have HB24 := Lib.hid (HB23.out.trans (hb.mono HB23.out.size))
    have HB4 := Lib.hid (HB3.out.trans (hb.mono HB3.out.size))
    clear hb hO hcl
    by_cases ha : acE s (t3s P) = 0
    case neg =>
      have HR := Lib.hid (my_app HE.out HIX.out ha)
      obtain ⟨k, hk⟩ : ∃ k, acE s (t3s P) = k := ⟨_, rfl⟩
      rw [hk] at ha HR ⊢
      have h2 : (k != 0) = true := by simpa using ha
      clear ha hk
      go_wp2
      refine bodyPost_ret (v := .tuple #[.bool false, .int .i64 k]) (by simp [results, Tryz.results14, go_sem]) rfl ?_
      exact ⟨by rw [HR.out.1, HR.out.2], HB4.out⟩
    have HA := Lib.hid ha
    rw [ha]
    clear ha
    have HOS := Lib.hid (acL_sz HO.out)
    have HOL := Lib.hid (show O.length = P.length from by
      have h := congrArg List.length HO.out
      rw [acL_len HA.out] at h
      simpa using h)
    go_wp2_with fail
    refine (check10_any g O HOS.out w4.heap.size ga gc p4 c4 w4 (Nat.le_refl _) ((HG.out.below HB4.out).mono HB4.out.size) HCL.out).mono ?_
    rw [HO.out]
    rintro e w5 ⟨rfl, hb⟩
    have HB25 := Lib.hid (HB24.out.trans (hb.mono HB24.out.size))
    have HB5 := Lib.hid (HB4.out.trans (hb.mono HB4.out.size))
    have HCL5 := Lib.hid ((HCL.out.below hb).mono hb.size)
    clear hb HCL
    have HM := Lib.hid (my_chk (g := g) (how := how) HE.out HIX.out HA.out)
    by_cases hk0 : errC g (acL s (t3s P)) = 0
    case neg =>
      have HR := Lib.hid (show myR g (t3s P) how j s = false from by unfold myR; rw [if_neg (by rw [HM.out]; exact hk0)])
      obtain ⟨k, hk⟩ : ∃ k, errC g (acL s (t3s P)) = k := ⟨_, rfl⟩
      rw [hk] at hk0 HM ⊢
      have h2 : (k != 0) = true := by simpa using hk0
      clear hk0 hk
      go_wp2
      refine bodyPost_ret (v := .tuple #[.bool false, .int .i64 k]) (by simp [results, Tryz.results14, go_sem]) rfl ?_
      exact ⟨by rw [HR.out, HM.out], HB5.out⟩
    have HK := Lib.hid hk0
    have HM0 := Lib.hid (HM.out.trans hk0)
    rw [hk0]
    clear hk0 HM
    by_cases hll : L = []
    · have HR := Lib.hid (my_sel0 HM0.out (HPL.out.trans hll))
      subst hll
      have HLN := Lib.hid HPL.out
      obtain ⟨b, o, x, rfl, hb, hx, ⟨a0, _⟩, _⟩ := (HP.out.below HB5.out).elem (i := j) hj
      have hj2 : (0 : Int) ≤ (j : Int) := Int.natCast_nonneg _
      have hj3 : (j : Int) < (P.length : Int) := by omega
      have HX := Lib.hid (getD_of (t3s_get hx))
      clear hx
      have CM := Lib.hid (rTop_any g O HOS.out (by rw [HO.out]; exact HK.out) j (by rw [HOL.out]; exact hj) (!x.n) w5.heap.size ga gc p4 c4 w5 (Nat.le_refl _) ((HG.out.below HB5.out).mono HB5.out.size) HCL5.out)
      go_wp2_with fail
      refine CM.out.mono ?_
      rw [HO.out]
      rintro e w6 ⟨rfl, hb6⟩
      have HB6 := Lib.hid (HB5.out.trans (hb6.mono HB5.out.size))
      clear hb6 CM a0
      rw [Int.toNat_natCast, HX.out] at HR
      have HR2 := Lib.hid (show myR g (t3s P) how j s = topC g (acL s (t3s P)) j (!x.n) from HR.out)
      generalize topC g (acL s (t3s P)) j (!x.n) = q at HR2 ⊢
      go_wp2
      refine bodyPost_ret (v := .tuple #[.bool q, .int .i64 0]) (by simp [results, Tryz.results14, go_sem]) rfl ?_
      exact ⟨by rw [HR2.out, HM0.out], HB6.out⟩
    · have HR := Lib.hid (my_sel1 HM0.out (fun e => hll (HPL.out.symm.trans e)))
      rw [HPL.out] at HR
      have hl0 : (0 : Int) < (L.length : Int) := by
        have := List.length_pos_iff.2 hll
        omega
      clear hll
      have CC := Lib.hid (in_any j L w3.heap.size p2 c2 w5 (HB25.out.size) (HIP.out.below HB25.out))
      go_wp2_with fail
      refine CC.out.mono ?_
      rintro e w6 ⟨rfl, hb6⟩
      have HB6 := Lib.hid (HB5.out.trans (hb6.mono HB5.out.size))
      clear hb6 CC
      generalize decide ((j : Int) ∈ L) = q at HR ⊢
      go_wp2
      refine bodyPost_ret (v := .tuple #[.bool q, .int .i64 0]) (by simp [results, Tryz.results14, go_sem]) rfl ?_
      exact ⟨by rw [HR.out, HM0.out], HB6.out⟩
end Go.Proofs.YtpncmdlbmnmahaaGreat
