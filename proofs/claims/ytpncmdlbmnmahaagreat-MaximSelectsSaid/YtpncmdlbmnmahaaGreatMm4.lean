/- Contracts of maxim's Select and May. -/
import Derived.Test.YtpncmdlbmnmahaaGreatMm1
import Derived.Test.YtpncmdlbmnmahaaGreatMm2
import Derived.Test.YtpncmdlbmnmahaaGreatMm3
namespace Go.Proofs.YtpncmdlbmnmahaaGreat
set_option linter.unusedVariables false
set_option linter.unusedSimpArgs false
open Go.RowKit
/-! ### Select -/
abbrev Fn0 : Value := .func (.func 44) #[] #[]
abbrev Fn1 : Value := .func (.func 45) #[] #[]
abbrev Fn2 : Value := .func (.func 46) #[] #[]
set_option maxRecDepth 100000 in
theorem selections_any (w : World) :
    Calls Tryz.prog 27 #[] w fun e w' => e = .returned (.agg #[Fn0, Fn1, Fn2]) ∧ Below w.heap.size w w' := by
  go_enter Tryz.func27, Tryz.ntmps27
  go_wp2
  refine bodyPost_ret (v := .agg #[Fn0, Fn1, Fn2]) (by simp [results, Tryz.results27, go_sem]) rfl ?_
  exact ⟨rfl, by first | exact (Below.refl _ w).alloc (Nat.le_refl _) _ | exact ((((Below.refl _ w).alloc (Nat.le_refl _) _).setCell (p := ⟨w.heap.size, 0, none⟩) (Nat.le_refl _) _).setCell (p := ⟨w.heap.size, 1, none⟩) (Nat.le_refl _) _).setCell (p := ⟨w.heap.size, 2, none⟩) (Nat.le_refl _) _⟩
def SePost (g : Sg) (C : List Lt3) (how : Int) (w : World) (e : Ending) (w' : World) : Prop := ∃ (p : Option Addr) (c' : Nat), e = .returned (.tuple #[.slice p (seL g C how).length c', .int .i64 (seE g C how)]) ∧ IsIs w'.heap.size w' (seL g C how) p c' ∧ Below w.heap.size w w'
set_option maxRecDepth 100000 in
set_option maxHeartbeats 8000000 in
theorem xSelect_any (g : Sg) (P : List LV) (hsz : ∀ x ∈ P, x.sz) (how : Int) (n₀ : Nat) (ga : Option Addr) (gc : Nat) (a : Option Addr) (c : Nat) (w : World) (hn : n₀ ≤ w.heap.size) (hG : IsSg n₀ w g ga gc) (hP : IsCl n₀ w P a c) :
    Calls Tryz.prog 11 #[.slice ga g.length gc, .slice a P.length c, .int .i64 how] w (SePost g (t3s P) how w) := by
  have HSZ := Lib.hid hsz
  have HP := Lib.hid (hP.mono hn)
  have HG := Lib.hid (hG.mono hn)
  clear hP hG hsz
  go_enter Tryz.func11, Tryz.ntmps11
  go_wp2_with fail
  refine (cCheck_any g P HSZ.out w.heap.size ga gc a c w (Nat.le_refl _) HG.out HP.out).mono ?_
  rintro e w2 ⟨rfl, hb⟩
  have HB2 := Lib.hid hb
  clear hb
  by_cases he : errC g (t3s P) = 0
  case neg =>
    have HE := Lib.hid (se_bad (how := how) he)
    obtain ⟨k, hk⟩ : ∃ k, errC g (t3s P) = k := ⟨_, rfl⟩
    rw [hk] at he HE ⊢
    have h2 : (k != 0) = true := by simpa using he
    clear he hk
    go_wp2
    refine bodyPost_ret (v := .tuple #[.slice none 0 0, .int .i64 k]) (by simp [results, Tryz.results11, go_sem]) rfl ?_
    exact ⟨none, 0, by rw [HE.out.1, HE.out.2]; rfl, by rw [HE.out.2]; exact is_nil _ _, HB2.out⟩
  have HE := Lib.hid he
  rw [he]
  clear he
  go_wp2_with fail
  refine (selections_any w2).mono ?_
  rintro e w3 ⟨rfl, hb⟩
  have HB3 := Lib.hid (HB2.out.trans (hb.mono HB2.out.size))
  clear hb
  by_cases hh : 0 ≤ how ∧ how ≤ 2
  · have HR := Lib.hid (se_ok HE.out hh)
    have h012 : how = 0 ∨ how = 1 ∨ how = 2 := by omega
    clear hh
    have fin : ∀ (W : World), Below w.heap.size w W → ∀ (W' : World) (e : Ending), SlPost (pickL g (t3s P) how) W e W' → ∃ (p : Option Addr) (c' : Nat), e = .returned (.slice p (seL g (t3s P) how).length c') ∧ IsIs W'.heap.size W' (seL g (t3s P) how) p c' ∧ Below w.heap.size w W' := by
      rintro W hW W' e ⟨p, c', rfl, hI, hb⟩
      exact ⟨p, c', by rw [HR.out.2], by rw [HR.out.2]; exact hI, hW.trans (hb.mono hW.size)⟩
    have HFIN := Lib.hid fin
    have HR2 := Lib.hid HR.out.1
    clear fin
    rcases h012 with rfl | rfl | rfl
    · go_wp2_with fail
      refine (none_any g P ga gc a c _).mono ?_
      intro e w5 hp
      obtain ⟨p, c', rfl, hI, hb⟩ := HFIN.out _ (HB3.out.alloc HB3.out.size _) _ _ hp
      have HI := Lib.hid (And.intro hI hb)
      clear hI hb hp
      go_wp2
      refine bodyPost_ret (v := .tuple #[.slice p (seL g (t3s P) 0).length c', .int .i64 0]) (by simp [results, Tryz.results11, go_sem]) rfl ?_
      exact ⟨p, c', by rw [HR2.out], HI.out.1, HI.out.2⟩
    · go_wp2_with fail
      refine (firstNeg_any g P w.heap.size ga gc a c _ ?hz ?hp).mono ?_
      case hz => have := HB3.out.size; simp; omega
      case hp => exact HP.out.below (HB3.out.alloc HB3.out.size _)
      intro e w5 hp
      obtain ⟨p, c', rfl, hI, hb⟩ := HFIN.out _ (HB3.out.alloc HB3.out.size _) _ _ hp
      have HI := Lib.hid (And.intro hI hb)
      clear hI hb hp
      go_wp2
      refine bodyPost_ret (v := .tuple #[.slice p (seL g (t3s P) 1).length c', .int .i64 0]) (by simp [results, Tryz.results11, go_sem]) rfl ?_
      exact ⟨p, c', by rw [HR2.out], HI.out.1, HI.out.2⟩
    · go_wp2_with fail
      refine (heaviest_any g P HSZ.out HE.out w.heap.size ga gc a c _ ?hz ?hg ?hp).mono ?_
      case hz => have := HB3.out.size; simp; omega
      case hg => exact HG.out.below (HB3.out.alloc HB3.out.size _)
      case hp => exact HP.out.below (HB3.out.alloc HB3.out.size _)
      intro e w5 hp
      obtain ⟨p, c', rfl, hI, hb⟩ := HFIN.out _ (HB3.out.alloc HB3.out.size _) _ _ hp
      have HI := Lib.hid (And.intro hI hb)
      clear hI hb hp
      go_wp2
      refine bodyPost_ret (v := .tuple #[.slice p (seL g (t3s P) 2).length c', .int .i64 0]) (by simp [results, Tryz.results11, go_sem]) rfl ?_
      exact ⟨p, c', by rw [HR2.out], HI.out.1, HI.out.2⟩
  · have HR := Lib.hid (se_out HE.out hh)
    have hh' : how < 0 ∨ (¬ how < 0 ∧ 3 ≤ how) := by omega
    clear hh
    rcases hh' with h | ⟨h0, h⟩
    · go_wp2
      refine bodyPost_ret (v := .tuple #[.slice none 0 0, .int .i64 1]) (by simp [results, Tryz.results11, go_sem]) rfl ?_
      exact ⟨none, 0, by rw [HR.out.1, HR.out.2]; rfl, by rw [HR.out.2]; exact is_nil _ _, HB3.out.alloc HB3.out.size _⟩
    · have h0' : decide (how < 0) = false := decide_eq_false h0
      clear h0
      go_wp2
      refine bodyPost_ret (v := .tuple #[.slice none 0 0, .int .i64 1]) (by simp [results, Tryz.results11, go_sem]) rfl ?_
      exact ⟨none, 0, by rw [HR.out.1, HR.out.2]; rfl, by rw [HR.out.2]; exact is_nil _ _, HB3.out.alloc HB3.out.size _⟩
/-! ### Contains -/
def IxI (n : Int) (zs : List Int) (w : World) (i : Value) (wr : World) : Prop := ∃ k : Nat, k ≤ zs.length ∧ i = .int .i64 k ∧ (∀ j, j < k → zs[j]? ≠ some n) ∧ wr = w
set_option maxRecDepth 100000 in
set_option maxHeartbeats 2000000 in
theorem index_any (n : Int) (zs : List Int) (n₀ : Nat) (a : Option Addr) (c : Nat) (w : World) (hn : n₀ ≤ w.heap.size) (hZ : IsIs n₀ w zs a c) :
    Calls Tryz.prog 48 #[.slice a zs.length c, .int .i64 n] w fun e w' => (∃ m : Int, e = .returned (.int .i64 m) ∧ ((0 ≤ m) ↔ n ∈ zs)) ∧ Below w.heap.size w w' := by
  have hl : zs.length ≤ c ∧ c ≤ maxLen := ⟨hZ.1, hZ.2.1⟩
  unfold maxLen at hl
  obtain ⟨hl1, hl2⟩ := hl
  have HZ := Lib.hid hZ
  clear hZ
  go_enter Tryz.func48, Tryz.ntmps48
  go_wp2
  go_loopw [8] (fun i wr => IxI n zs w i wr) (fun i _ => zs.length - (intOf i).toNat)
  case atStart => exact ⟨0, Nat.zero_le _, rfl, fun j h => by omega, rfl⟩
  case round =>
    obtain ⟨k, hk, rfl, hno, rfl⟩ := hrel
    have HN := Lib.hid hno
    clear hno
    by_cases hlt : k < zs.length
    · obtain ⟨b, o, z, rfl, hbn, hz, hcz⟩ := HZ.out.elem (k := k) hlt
      have hk0 : (0 : Int) ≤ (k : Int) := Int.natCast_nonneg _
      have hk1 : (k : Int) < (zs.length : Int) := by omega
      have HZK := Lib.hid hz
      clear hz
      by_cases q : z = n
      · subst q
        go_wp2
        go_ret
        exact ⟨⟨k, rfl, ⟨fun _ => List.mem_of_getElem? HZK.out, fun _ => by omega⟩⟩, Below.refl _ _⟩
      · have q' : (n == z) = false := by simpa using fun e : n = z => q e.symm
        go_wp2
        go_roundw
        case rel =>
          refine ⟨k + 1, by omega, by go_num, fun j hj => ?_, rfl⟩
          by_cases e : j = k
          · subst e
            rw [HZK.out]
            intro e
            exact q (Option.some.inj e)
          · exact HN.out j (by omega)
        case measure => simp [intOf]; omega
    · have hd : n ∉ zs := by
        intro hm
        obtain ⟨j, hj⟩ := List.getElem?_of_mem hm
        exact HN.out j (by have := (List.getElem?_eq_some_iff.1 hj).1; omega) hj
      go_wp2
      go_ret
      exact ⟨⟨-1, rfl, ⟨fun h => by omega, fun h => absurd h hd⟩⟩, Below.refl _ _⟩
set_option maxRecDepth 100000 in
theorem containsI_any (n : Int) (zs : List Int) (n₀ : Nat) (a : Option Addr) (c : Nat) (w : World) (hn : n₀ ≤ w.heap.size) (hZ : IsIs n₀ w zs a c) :
    Calls Tryz.prog 29 #[.slice a zs.length c, .int .i64 n] w fun e w' => e = .returned (.bool (decide (n ∈ zs))) ∧ Below w.heap.size w w' := by
  have CI := Lib.hid (index_any n zs n₀ a c w hn hZ)
  clear hZ
  go_enter Tryz.func29, Tryz.ntmps29
  go_wp2_with fail
  refine CI.out.mono ?_
  rintro e w2 ⟨⟨m, rfl, hm⟩, hb⟩
  have HB := Lib.hid hb
  have HM := Lib.hid (show decide (n ∈ zs) = decide (0 ≤ m) from by simp [hm])
  clear hb hm
  go_wp2
  go_ret
  exact ⟨by rw [HM.out]; rfl, HB.out⟩
/-! ### May -/
def MyPost (g : Sg) (C : List Lt3) (how i : Int) (s : Sb) (w : World) (e : Ending) (w' : World) : Prop := e = .returned (.tuple #[.bool (myR g C how i s), .int .i64 (myE g C how i s)]) ∧ Below w.heap.size w w'
theorem my_sel {g : Sg} {C : List Lt3} {how i : Int} {s : Sb} (h : seE g C how ≠ 0) : myE g C how i s = seE g C how ∧ myR g C how i s = false := by
  have he : myE g C how i s = seE g C how := by unfold myE; rw [if_neg h]
  exact ⟨he, by unfold myR; rw [if_neg (by rw [he]; exact h)]⟩
theorem my_out {g : Sg} {C : List Lt3} {how i : Int} {s : Sb} (h : seE g C how = 0) (hi : idxB C i = false) : myE g C how i s = 1 ∧ myR g C how i s = false := by
  have he : myE g C how i s = 1 := by unfold myE; rw [if_pos h, hi]; rfl
  exact ⟨he, by unfold myR; rw [if_neg (by rw [he]; decide)]⟩
theorem my_app {g : Sg} {C : List Lt3} {how i : Int} {s : Sb} (h : seE g C how = 0) (hi : idxB C i = true) (ha : acE s C ≠ 0) : myE g C how i s = acE s C ∧ myR g C how i s = false := by
  have he : myE g C how i s = acE s C := by unfold myE; rw [if_pos h, hi, if_pos rfl, if_neg ha]
  exact ⟨he, by unfold myR; rw [if_neg (by rw [he]; exact ha)]⟩
theorem my_chk {g : Sg} {C : List Lt3} {how i : Int} {s : Sb} (h : seE g C how = 0) (hi : idxB C i = true) (ha : acE s C = 0) : myE g C how i s = errC g (acL s C) := by
  unfold myE; rw [if_pos h, hi, if_pos rfl, if_pos ha]
theorem my_sel1 {g : Sg} {C : List Lt3} {how i : Int} {s : Sb} (h : myE g C how i s = 0) (hp : pickL g C how ≠ []) : myR g C how i s = decide (i ∈ pickL g C how) := by
  unfold myR; rw [if_pos h, if_neg hp]
theorem my_sel0 {g : Sg} {C : List Lt3} {how i : Int} {s : Sb} (h : myE g C how i s = 0) (hp : pickL g C how = []) : myR g C how i s = topC g (acL s C) i.toNat (!(C.getD i.toNat z3).neg) := by
  unfold myR; rw [if_pos h, if_pos hp]
theorem acL_len {s : Sb} {C : List Lt3} (h : acE s C = 0) : (acL s C).length = C.length := by rw [(ac_ok h).2.2, List.length_map]
theorem acL_sz {s : Sb} {C : List Lt3} {O : List LV} (ho : t3s O = acL s C) : ∀ y ∈ O, y.sz := fun y hy => by
  by_cases h : acE s C = 0
  · have hm : y.t3 ∈ acL s C := by rw [← ho]; exact List.mem_map.2 ⟨y, hy, rfl⟩
    rw [(ac_ok h).2.2] at hm
    obtain ⟨x, _, e⟩ := List.mem_map.1 hm
    have e1 : appT s x.l = y.l := congrArg Lt3.l e
    have e2 : appT s x.r = y.r := congrArg Lt3.r e
    exact ⟨by rw [← e1]; exact appT_small9 _ _, by rw [← e2]; exact appT_small9 _ _⟩
  · rw [ac_bad h] at ho
    rw [List.map_eq_nil_iff.1 ho] at hy
    cases hy
set_option maxRecDepth 100000 in
set_option maxHeartbeats 8000000 in
theorem xMay_any (g : Sg) (P : List LV) (hsz : ∀ x ∈ P, x.sz) (how i : Int) (s : Sb) (hss : ∀ x ∈ s, x.2.size ≤ 1000000000000) (n₀ : Nat) (ga : Option Addr) (gc : Nat) (a : Option Addr) (c : Nat) (sa : Option Addr) (sc : Nat) (w : World) (hn : n₀ ≤ w.heap.size) (hG : IsSg n₀ w g ga gc) (hP : IsCl n₀ w P a c) (hS : IsBs n₀ w s sa sc) :
    Calls Tryz.prog 13 #[.slice ga g.length gc, .slice a P.length c, .int .i64 how, .int .i64 i, .slice sa s.length sc] w (MyPost g (t3s P) how i s w) := by
  have HI := Lib.hid (fun W => isIndex_any P i a c W hP.1 hP.2.1)
  have hlc : P.length ≤ c ∧ c ≤ maxLen := ⟨hP.1, hP.2.1⟩
  unfold maxLen at hlc
  obtain ⟨hl1, hl2⟩ := hlc
  have HSZ := Lib.hid hsz
  have HSS := Lib.hid hss
  have HP := Lib.hid (hP.mono hn)
  have HG := Lib.hid (hG.mono hn)
  have HS := Lib.hid (hS.mono hn)
  clear hP hG hS hsz hss
  go_enter Tryz.func13, Tryz.ntmps13
  go_wp2_with fail
  refine (xSelect_any g P HSZ.out how w.heap.size ga gc a c w (Nat.le_refl _) HG.out HP.out).mono ?_
  rintro e w2 ⟨p2, c2, rfl, hI2, hb⟩
  have HB2 := Lib.hid hb
  have HI2 := Lib.hid hI2
  clear hb hI2
  by_cases he : seE g (t3s P) how = 0
  case neg =>
    have HE := Lib.hid (my_sel (i := i) (s := s) he)
    obtain ⟨k, hk⟩ : ∃ k, seE g (t3s P) how = k := ⟨_, rfl⟩
    rw [hk] at he HE ⊢
    have h2 : (k != 0) = true := by simpa using he
    clear he hk
    generalize (seL g (t3s P) how).length = n2
    go_wp2
    refine bodyPost_ret (v := .tuple #[.bool false, .int .i64 k]) (by simp [results, Tryz.results13, go_sem]) rfl ?_
    exact ⟨by rw [HE.out.1, HE.out.2], HB2.out⟩
  have HE := Lib.hid he
  have HL := Lib.hid (show seL g (t3s P) how = pickL g (t3s P) how from (se_ok (seE_zero he).1 (seE_zero he).2).2)
  have HIP := Lib.hid (show IsIs w2.heap.size w2 (pickL g (t3s P) how) p2 c2 from by rw [← HL.out]; exact HI2.out)
  rw [he, HL.out]
  clear he HI2
  obtain ⟨L, hL⟩ : ∃ L, pickL g (t3s P) how = L := ⟨_, rfl⟩
  have HPL := Lib.hid hL
  rw [hL] at HIP ⊢
  clear hL
  go_wp2_with fail
  refine (HI.out w2).mono ?_
  rintro e w3 ⟨rfl, hb⟩
  have HB23 := Lib.hid hb
  have HB3 := Lib.hid (HB2.out.trans (hb.mono HB2.out.size))
  clear hb
  cases hi : idxB (t3s P) i with
  | false =>
    have HR := Lib.hid (my_out (s := s) HE.out hi)
    clear hi
    go_wp2
    refine bodyPost_ret (v := .tuple #[.bool false, .int .i64 1]) (by simp [results, Tryz.results13, go_sem]) rfl ?_
    exact ⟨by rw [HR.out.1, HR.out.2], HB3.out⟩
  | true =>
    have HIX := Lib.hid hi
    obtain ⟨j, rfl, hj⟩ : ∃ j : Nat, i = j ∧ j < P.length := by
      simp [idxB] at hi
      exact ⟨i.toNat, by omega, by omega⟩
    clear hi
    go_wp2_with fail
    refine (cApply_any s HSS.out P HSZ.out w.heap.size sa sc a c w3 HB3.out.size (HS.out.below HB3.out) (HP.out.below HB3.out)).mono ?_
    rintro e w4 ⟨O, p4, c4, hO, rfl, hcl, hb⟩
    have HO := Lib.hid hO
    have HCL := Lib.hid hcl
    have HB24 := Lib.hid (HB23.out.trans (hb.mono HB23.out.size))
    have HB4 := Lib.hid (HB3.out.trans (hb.mono HB3.out.size))
    clear hb hO hcl
    by_cases ha : acE s (t3s P) = 0
    case neg =>
      have HR := Lib.hid (my_app HE.out HIX.out ha)
      obtain ⟨k, hk⟩ : ∃ k, acE s (t3s P) = k := ⟨_, rfl⟩
      rw [hk] at ha HR ⊢
      have h2 : (k != 0) = true := by simpa using ha
      clear ha hk
      go_wp2
      refine bodyPost_ret (v := .tuple #[.bool false, .int .i64 k]) (by simp [results, Tryz.results13, go_sem]) rfl ?_
      exact ⟨by rw [HR.out.1, HR.out.2], HB4.out⟩
    have HA := Lib.hid ha
    rw [ha]
    clear ha
    have HOS := Lib.hid (acL_sz HO.out)
    have HOL := Lib.hid (show O.length = P.length from by
      have h := congrArg List.length HO.out
      rw [acL_len HA.out] at h
      simpa using h)
    go_wp2_with fail
    refine (cCheck_any g O HOS.out w4.heap.size ga gc p4 c4 w4 (Nat.le_refl _) ((HG.out.below HB4.out).mono HB4.out.size) HCL.out).mono ?_
    rw [HO.out]
    rintro e w5 ⟨rfl, hb⟩
    have HB25 := Lib.hid (HB24.out.trans (hb.mono HB24.out.size))
    have HB5 := Lib.hid (HB4.out.trans (hb.mono HB4.out.size))
    have HCL5 := Lib.hid ((HCL.out.below hb).mono hb.size)
    clear hb HCL
    have HM := Lib.hid (my_chk (g := g) (how := how) HE.out HIX.out HA.out)
    by_cases hk0 : errC g (acL s (t3s P)) = 0
    case neg =>
      have HR := Lib.hid (show myR g (t3s P) how j s = false from by unfold myR; rw [if_neg (by rw [HM.out]; exact hk0)])
      obtain ⟨k, hk⟩ : ∃ k, errC g (acL s (t3s P)) = k := ⟨_, rfl⟩
      rw [hk] at hk0 HM ⊢
      have h2 : (k != 0) = true := by simpa using hk0
      clear hk0 hk
      go_wp2
      refine bodyPost_ret (v := .tuple #[.bool false, .int .i64 k]) (by simp [results, Tryz.results13, go_sem]) rfl ?_
      exact ⟨by rw [HR.out, HM.out], HB5.out⟩
    have HK := Lib.hid hk0
    have HM0 := Lib.hid (HM.out.trans hk0)
    rw [hk0]
    clear hk0 HM
    by_cases hll : L = []
    · have HR := Lib.hid (my_sel0 HM0.out (HPL.out.trans hll))
      subst hll
      have HLN := Lib.hid HPL.out
      obtain ⟨b, o, x, rfl, hb, hx, ⟨a0, _⟩, _⟩ := (HP.out.below HB5.out).elem (i := j) hj
      have hj0 : (0 : Int) ≤ (j : Int) := Int.natCast_nonneg _
      have hj1 : (j : Int) < (P.length : Int) := by omega
      have HX := Lib.hid (getD_of (t3s_get hx))
      clear hx
      have CM := Lib.hid (maximal_any g O HOS.out (by rw [HO.out]; exact HK.out) j (by rw [HOL.out]; exact hj) (!x.n) w5.heap.size ga gc p4 c4 w5 (Nat.le_refl _) ((HG.out.below HB5.out).mono HB5.out.size) HCL5.out)
      go_wp2_with fail
      refine CM.out.mono ?_
      rw [HO.out]
      rintro e w6 ⟨rfl, hb6⟩
      have HB6 := Lib.hid (HB5.out.trans (hb6.mono HB5.out.size))
      clear hb6 CM a0
      rw [Int.toNat_natCast, HX.out] at HR
      have HR2 := Lib.hid (show myR g (t3s P) how j s = topC g (acL s (t3s P)) j (!x.n) from HR.out)
      generalize topC g (acL s (t3s P)) j (!x.n) = q at HR2 ⊢
      go_wp2
      refine bodyPost_ret (v := .tuple #[.bool q, .int .i64 0]) (by simp [results, Tryz.results13, go_sem]) rfl ?_
      exact ⟨by rw [HR2.out, HM0.out], HB6.out⟩
    · have HR := Lib.hid (my_sel1 HM0.out (fun e => hll (HPL.out.symm.trans e)))
      rw [HPL.out] at HR
      have hl0 : (0 : Int) < (L.length : Int) := by
        have := List.length_pos_iff.2 hll
        omega
      clear hll
      have CC := Lib.hid (containsI_any j L w2.heap.size p2 c2 w5 (HB25.out.size) (HIP.out.below HB25.out))
      go_wp2_with fail
      refine CC.out.mono ?_
      rintro e w6 ⟨rfl, hb6⟩
      have HB6 := Lib.hid (HB5.out.trans (hb6.mono HB5.out.size))
      clear hb6 CC
      generalize decide ((j : Int) ∈ L) = q at HR ⊢
      go_wp2
      refine bodyPost_ret (v := .tuple #[.bool q, .int .i64 0]) (by simp [results, Tryz.results13, go_sem]) rfl ?_
      exact ⟨by rw [HR.out, HM0.out], HB6.out⟩
end Go.Proofs.YtpncmdlbmnmahaaGreat
