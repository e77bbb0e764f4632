/- Contract of the reference's Then. -/
import Derived.Test.YtbljkiodgjgnaaaThW
import Derived.Test.YtbljkiodgjgnaaaBoth
import Derived.Test.YtbljkiodgjgnaaaRRt
namespace Go.Proofs.Ytbljkiodgjgnaaa
set_option linter.unusedVariables false
set_option linter.unusedSimpArgs false
open Go.RowKit
/-- The checks of all terms of a list of bindings, one after the other. -/
def RTI (s : Sb) (w : World) (i : Value) (wr : World) : Prop := ∃ k : Nat, k ≤ s.length ∧ i = .int .i64 k ∧ errL s = errL (s.drop k) ∧ Below w.heap.size w wr

def RThenPost (s u : Sb) (w : World) (e : Ending) (w' : World) : Prop :=
  ((rightS 0 s && rightS 0 u) = false ∧ SEPost [] 1 w e w') ∨ ((rightS 0 s && rightS 0 u) = true ∧ ((thenE s u allV = 0 ∧ SEPost (thenL s u allV) 0 w e w') ∨ (thenE s u allV ≠ 0 ∧ SEPost [] (thenE s u allV) w e w')))

set_option maxRecDepth 100000 in
set_option maxHeartbeats 4000000 in
theorem refThen_any (s u : Sb) (hsz : ∀ x ∈ s, x.2.size ≤ 1000000000000) (husz : ∀ x ∈ u, x.2.size ≤ 1000000000000) (n₀ : Nat) (a : Option Addr) (c : Nat) (a' : Option Addr) (c' : Nat) (w : World) (hn : n₀ ≤ w.heap.size) (hS : IsBs n₀ w s a c) (hU : IsBs n₀ w u a' c') :
    Calls Try.prog 32 #[.slice a s.length c, .slice a' u.length c'] w (RThenPost s u w) := by
  have HSZ := Lib.hid hsz
  have HUZ := Lib.hid husz
  have LS := Lib.hid (show ∀ W, Below w.heap.size w W → IsBs n₀ W s a c ∧ IsBs n₀ W u a' c' ∧ n₀ ≤ W.heap.size from fun W hW => ⟨hS.below (hW.mono hn), hU.below (hW.mono hn), Nat.le_trans hn hW.size⟩)
  clear hS hU hsz husz hn
  go_enter Try.func32, Try.ntmps32
  go_wp2_with fail
  have ls := LS.out w (Below.refl _ _)
  refine (refRightS_any s HSZ.out n₀ a c w ls.2.2 ls.1).mono ?_
  clear ls
  rintro e w1 ⟨rfl, hb⟩
  have HB1 := Lib.hid hb
  clear hb
  cases q1 : rightS 0 s
  · go_wp2
    refine bodyPost_ret (v := .tuple #[.slice none 0 0, .int .i64 1]) (by simp [results, Try.results32, go_sem]) rfl ?_
    exact .inl ⟨by rw [q1]; rfl, none, 0, rfl, IsBs.nil _ _ _ (by simp [maxLen]), HB1.out⟩
  go_wp2_with fail
  have ls := LS.out w1 HB1.out
  refine (refRightS_any u HUZ.out n₀ a' c' w1 ls.2.2 ls.2.1).mono ?_
  clear ls
  rintro e w2 ⟨rfl, hb⟩
  have HB2 := Lib.hid (HB1.out.trans (hb.mono HB1.out.size))
  clear hb HB1
  cases q2 : rightS 0 u
  · go_wp2
    refine bodyPost_ret (v := .tuple #[.slice none 0 0, .int .i64 1]) (by simp [results, Try.results32, go_sem]) rfl ?_
    exact .inl ⟨by rw [q1, q2]; rfl, none, 0, rfl, IsBs.nil _ _ _ (by simp [maxLen]), HB2.out⟩
  have HQ := Lib.hid (show (rightS 0 s && rightS 0 u) = true from by rw [q1, q2]; rfl)
  have hsz : ∀ z, (ofS s z).size ≤ 400 := fun z => ofS_size (by omega) (right_size q1) z
  have HE := Lib.hid (errL_then allV (fun z hz h => thenT_var q1 q2 (mem_allV.1 hz).1 (mem_allV.1 hz).2 h))
  have HXS := Lib.hid (show ∀ x ∈ thenL s u allV, x.2.size ≤ 1000000000000 from fun x hx => by
    rw [(thenL_mem hx).1]
    exact Nat.le_trans (sub_bound q2 (hsz _)) (by omega))
  go_wp2_with fail
  have ls := LS.out w2 HB2.out
  refine (refBoth_any s u (fun z => Nat.le_trans (hsz z) (by omega)) n₀ a c a' c' w2 ls.2.2 ls.1 ls.2.1).mono ?_
  clear ls hsz q1 q2
  rintro e wL ⟨ar, cr, rfl, hI, hb⟩
  have HBL := Lib.hid (HB2.out.trans (hb.mono HB2.out.size))
  have HI := Lib.hid hI
  have hlv : (thenL s u allV).length ≤ cr ∧ cr ≤ maxLen := ⟨hI.1, hI.2.1⟩
  unfold maxLen at hlv
  obtain ⟨hlv1, hlv2⟩ := hlv
  generalize hout : thenL s u allV = out at *
  have HOUT := Lib.hid hout
  clear hout
  clear hb hI HB2
  go_wp2
  go_loopw [7] (fun i wr => RTI out wL i wr) (fun i _ => out.length - (intOf i).toNat)
  case atStart => exact ⟨0, Nat.zero_le _, rfl, by simp, Below.refl _ _⟩
  case round =>
    obtain ⟨k, hk, rfl, hE, hB⟩ := hrel
    have HEK := Lib.hid hE
    have HB := Lib.hid hB
    have hbz := hB.size
    clear hE hB
    by_cases hlt : k < out.length
    · obtain ⟨b, o, x, t, a2, c2, rfl, hbn, hsk, hxw, htw, hc0, hc1, hc2, hA2⟩ := (HI.out.below HB.out).elem (i := k) hlt
      have hk0 : (0 : Int) ≤ (k : Int) := Int.natCast_nonneg _
      have hk1 : (k : Int) < (out.length : Int) := by omega
      have HSK := Lib.hid hsk
      have hts : t.size ≤ 1000000000000 := HXS.out _ (List.mem_of_getElem? hsk)
      have hbw : b < wr.heap.size := by omega
      have HA2 := Lib.hid hA2
      clear hsk hxw htw hA2
      go_wp2_with fail
      refine (refCheck_any t hts wL.heap.size a2 c2 wr hbz HA2.out).mono ?_
      rintro e w3 ⟨rfl, hb3⟩
      have HB3 := Lib.hid hb3
      clear hb3
      by_cases qc : t.check = 0
      · have QC := Lib.hid qc
        rw [qc]
        clear qc
        go_wp2
        go_roundw
        case rel =>
          refine ⟨k + 1, by omega, by go_num, by rw [HEK.out, errL_step HSK.out, if_pos QC.out], HB.out.trans (HB3.out.mono hbz)⟩
        case measure => simp [intOf]; omega
      · have hd : errL out = t.check := by rw [HEK.out, errL_step HSK.out, if_neg qc]
        have QC := Lib.hid qc
        obtain ⟨ck, hck⟩ : ∃ ck, t.check = ck := ⟨_, rfl⟩
        rw [hck] at qc hd ⊢
        have hne : (ck == 0) = false := by simpa using qc
        have HD := Lib.hid hd
        have HQC := Lib.hid qc
        clear hd hck qc
        have HF := Lib.hid (HBL.out.trans ((HB.out.trans (HB3.out.mono hbz)).mono HBL.out.size))
        go_wp2
        refine bodyPost_ret (v := .tuple #[.slice none 0 0, .int .i64 ck]) (by simp [results, Try.results32, go_sem]) rfl ?_
        exact .inr ⟨HQ.out, .inr ⟨by rw [← HE.out, HD.out]; exact HQC.out, by rw [← HE.out, HD.out]; exact ⟨none, 0, rfl, IsBs.nil _ _ _ (by simp [maxLen]), HF.out⟩⟩⟩
    · obtain rfl : k = out.length := by omega
      have hd : errL out = 0 := by rw [HEK.out, List.drop_of_length_le (Nat.le_refl _)]; rfl
      have HD := Lib.hid hd
      have HF := Lib.hid (HBL.out.trans (HB.out.mono HBL.out.size))
      have HIF := Lib.hid ((HI.out.below HB.out).mono hbz)
      clear hd
      go_wp2
      refine bodyPost_ret (v := .tuple #[.slice ar out.length cr, .int .i64 0]) (by simp [results, Try.results32, go_sem]) rfl ?_
      exact .inr ⟨HQ.out, .inl ⟨by rw [← HE.out]; exact HD.out, by rw [HOUT.out]; exact ⟨ar, cr, rfl, HIF.out, HF.out⟩⟩⟩

end Go.Proofs.Ytbljkiodgjgnaaa
