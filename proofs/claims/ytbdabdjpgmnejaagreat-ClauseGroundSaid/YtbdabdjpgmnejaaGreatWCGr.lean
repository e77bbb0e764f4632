/- The walk of ClauseGround. -/
import Derived.Test.YtbdabdjpgmnejaaGreatFw10
import Derived.Test.YtbdabdjpgmnejaaGreatAw10
import Derived.Test.YtbdabdjpgmnejaaGreatCmc
import Derived.Test.YtbdabdjpgmnejaaGreatQDg
import Derived.Test.YtbdabdjpgmnejaaGreatQBn
import Derived.Test.YtbdabdjpgmnejaaGreatQDb
namespace Go.Proofs.YtbdabdjpgmnejaaGreat
set_option linter.unusedVariables false
set_option linter.unusedSimpArgs false
open Go.RowKit

theorem rvs_grd {ts : List T} (h : (T.rvs [] ts).length = 0) : ∀ t ∈ ts, Grd t := fun t ht => by
  refine vars_grd ?_
  rw [← T.rv_eq]
  have h0 : T.rvs [] ts = [] := List.eq_nil_of_length_eq_zero h
  have : t.rv = [] := List.eq_nil_iff_forall_not_mem.2 fun v hv => by
    have := mem_rvs.2 (.inr ⟨t, ht, hv⟩ : v ∈ ([] : List Int) ∨ ∃ s ∈ ts, v ∈ s.rv)
    rw [h0] at this
    cases this
  rw [this]; rfl
theorem ground10 {g : Sg} {A B : List LV} (h1 : ccE g (t3s A) (t3s B) = 0) (ha : (T.rvs [] (sidesC (t3s A))).length = 0) (hb : (T.rvs [] (sidesC (t3s B))).length = 0) :
    ccR g (t3s A) (t3s B) = - ccR g (t3s B) (t3s A) ∧ ccR g (t3s A) (t3s B) ≠ 2 ∧ (ccR g (t3s A) (t3s B) = 0 → A.length = B.length) := by
  have hA : errC g (t3s A) = 0 := by
    unfold ccE at h1
    by_cases h : errC g (t3s A) = 0
    · exact h
    · rw [if_neg h] at h1; exact absurd h1 h
  have hB : errC g (t3s B) = 0 := by
    unfold ccE at h1
    rwa [if_pos hA] at h1
  have e1 : ccR g (t3s A) (t3s B) = stC g (t3s A) (t3s B) := by unfold ccR; rw [if_pos hA, if_pos hB]
  have e2 : ccR g (t3s B) (t3s A) = stC g (t3s B) (t3s A) := by unfold ccR; rw [if_pos hB, if_pos hA]
  rw [e1, e2]
  have hg := stC_ground (g := g) (c := t3s A) (d := t3s B) (fun x hx t ht => by
    have key : ∀ c : List Lt3, errC g c = 0 → (T.rvs [] (sidesC c)).length = 0 → x ∈ c → OkT g t ∧ Grd t := fun c hc hv hxc => by
      obtain ⟨q1, q2, _⟩ := errL_ok ((errC_ok hc).2.2 x hxc)
      have hgr := rvs_grd hv
      rcases ht with rfl | rfl
      · exact ⟨errT_okT q1, hgr _ (mem_sidesC.2 ⟨x, hxc, .inl rfl⟩)⟩
      · exact ⟨errT_okT q2, hgr _ (mem_sidesC.2 ⟨x, hxc, .inr rfl⟩)⟩
    rcases List.mem_append.1 hx with hx | hx
    · exact key _ hA ha hx
    · exact key _ hB hb hx)
  exact ⟨hg.1, hg.2.1, fun h => by have := hg.2.2 h; simpa using this⟩
theorem ccR_cases (g : Sg) (c d : List Lt3) : ccR g c d = 0 ∨ ccR g c d = 1 ∨ ccR g c d = -1 ∨ ccR g c d = 2 := by
  unfold ccR
  split
  · split
    · exact stC_cases g c d
    · exact .inl rfl
  · exact .inl rfl
theorem ccE_swap {g : Sg} {c d : List Lt3} (h : ccE g c d = 0) : ccE g d c = 0 := by
  unfold ccE at *
  by_cases h1 : errC g c = 0
  · rw [if_pos h1] at h
    rw [if_pos h, h1]
  · rw [if_neg h1] at h; exact absurd h h1

set_option maxRecDepth 100000 in
set_option maxHeartbeats 8000000 in
theorem clauseGround_walk (g : Sg) (A B : List LV) (ga : Option Addr) (gc : Nat) (pa : Option Addr) (ca : Nat) (pb : Option Addr) (cb : Nat) (w : World) (hG : IsSg w.heap.size w g ga gc) (hA : IsCl w.heap.size w A pa ca) (hB : IsCl w.heap.size w B pb cb) :
    Calls Tryz.prog 5 #[.slice ga g.length gc, .slice pa A.length ca, .slice pb B.length cb] w fun e w' => e = .returned (.bool true) ∧ Below w.heap.size w w' := by
  have hla := hA.1
  have hla2 := hA.2.1
  have hlb := hB.1
  have hlb2 := hB.2.1
  unfold maxLen at hla2 hlb2
  have CF := Lib.hid (fewL10_any g A B w.heap.size ga gc pa ca pb cb w (Nat.le_refl _) hG hA hB)
  have HG := Lib.hid hG
  have HA := Lib.hid hA
  have HB := Lib.hid hB
  clear hG hA hB
  go_enter Tryz.func5, Tryz.ntmps5
  go_wp2_with fail
  refine CF.out.mono ?_
  rintro e w2 ⟨b, rfl, hf, hb⟩
  have HB2 := Lib.hid hb
  have hz2 := hb.size
  clear hb CF
  cases b with
  | false =>
    clear hf
    go_wp2
    go_ret
    exact ⟨rfl, HB2.out⟩
  | true =>
    obtain ⟨hfa, hfb⟩ := hf rfl
    have HFA := Lib.hid hfa
    have HFB := Lib.hid hfb
    have hl1 := hfa.1
    have hl2 := hfb.1
    clear hf hfa hfb
    by_cases hq : 16 < A.length + B.length
    · have hq' : (16 : Int) < (A.length : Int) + (B.length : Int) := by omega
      clear hq
      go_wp2
      go_ret
      exact ⟨rfl, HB2.out⟩
    · have hq' : decide ((16 : Int) < (A.length : Int) + (B.length : Int)) = false := decide_eq_false (by omega)
      clear hq
      go_wp2_with fail
      refine (vars10_any A (by omega) (Nat.le_trans HFA.out.2 (by omega)) w.heap.size pa ca w2 hz2 (HA.out.below HB2.out)).mono ?_
      rintro e w3 ⟨pv, cv, rfl, hv, _, hb⟩
      have HB3 := Lib.hid (HB2.out.trans (hb.mono hz2))
      have hz3 := HB3.out.size
      have hvl : (T.rvs [] (sidesC (t3s A))).length ≤ maxLen := Nat.le_trans hv.1 hv.2.1
      unfold maxLen at hvl
      clear hb hv
      have CV2 := Lib.hid (vars10_any B (by omega) (Nat.le_trans HFB.out.2 (by omega)) w.heap.size pb cb w3 hz3 (HB.out.below HB3.out))
      obtain ⟨va, hva⟩ : ∃ va, (T.rvs [] (sidesC (t3s A))).length = va := ⟨_, rfl⟩
      have HVA := Lib.hid hva
      have hval : va ≤ 2000 := by
        have h1 := T.rv_length (.node 0 (sidesC (t3s A)))
        simp only [T.rv, T.size] at h1
        rw [if_neg (by decide)] at h1
        have := HFA.out.2
        omega
      rw [hva]
      clear hva hvl
      go_wp2_with fail
      refine CV2.out.mono ?_
      rintro e w4 ⟨pv2, cv2, rfl, hv, _, hb⟩
      have HB4 := Lib.hid (HB3.out.trans (hb.mono hz3))
      have hz4 := HB4.out.size
      clear hb hv CV2
      obtain ⟨vb, hvb⟩ : ∃ vb, (T.rvs [] (sidesC (t3s B))).length = vb := ⟨_, rfl⟩
      have HVB := Lib.hid hvb
      have hvbl : vb ≤ 2000 := by
        have h1 := T.rv_length (.node 0 (sidesC (t3s B)))
        simp only [T.rv, T.size] at h1
        rw [if_neg (by decide)] at h1
        have := HFB.out.2
        omega
      rw [hvb]
      clear hvb
      by_cases h0 : 0 < va + vb
      · have h0' : (0 : Int) < (va : Int) + (vb : Int) := by omega
        clear h0
        go_wp2
        go_ret
        exact ⟨rfl, HB4.out⟩
      · obtain rfl : va = 0 := by omega
        obtain rfl : vb = 0 := by omega
        clear h0 hval hvbl
        go_wp2_with fail
        refine (cCompare_any g A B HFA.out.sz HFB.out.sz w.heap.size ga gc pa ca pb cb w4 hz4 (HG.out.below HB4.out) (HA.out.below HB4.out) (HB.out.below HB4.out)).mono ?_
        rintro e w5 ⟨rfl, hb⟩
        have HB5 := Lib.hid (HB4.out.trans (hb.mono hz4))
        have hz5 := HB5.out.size
        clear hb
        have C2 := Lib.hid (cCompare_any g B A HFB.out.sz HFA.out.sz w.heap.size ga gc pb cb pa ca w5 hz5 (HG.out.below HB5.out) (HB.out.below HB5.out) (HA.out.below HB5.out))
        have HGR := Lib.hid (fun h => ground10 (g := g) (A := A) (B := B) h HVA.out HVB.out)
        have HSW := Lib.hid (show ccE g (t3s A) (t3s B) = 0 → ccE g (t3s B) (t3s A) = 0 from fun h => ccE_swap h)
        have HCA := Lib.hid (ccR_cases g (t3s A) (t3s B))
        generalize ccR g (t3s A) (t3s B) = q1 at C2 HGR HCA ⊢
        generalize ccE g (t3s A) (t3s B) = q2 at C2 HGR HSW ⊢
        generalize ccR g (t3s B) (t3s A) = q3 at C2 HGR ⊢
        generalize ccE g (t3s B) (t3s A) = q4 at C2 HGR HSW ⊢
        go_wp2_with fail
        refine C2.out.mono ?_
        rintro e w6 ⟨rfl, hb⟩
        have HB6 := Lib.hid (HB5.out.trans (hb.mono hz5))
        have hz6 := HB6.out.size
        clear hb C2
        by_cases h2 : q2 = 0
        case neg =>
          have h2' : (q2 != 0) = true := by simpa using h2
          clear h2
          go_wp2_with fail
          refine (awake10_any w6).mono ?_
          rintro e w7 ⟨rfl, hb⟩
          have HB7 := Lib.hid (HB6.out.trans (hb.mono hz6))
          clear hb
          go_wp2
          go_ret
          exact ⟨rfl, HB7.out⟩
        obtain ⟨k1, k2, k3⟩ := HGR.out h2
        obtain rfl : q4 = 0 := HSW.out h2
        subst h2
        have hq3 : q3 = -q1 := by omega
        subst hq3
        have hc := HCA.out
        have K3 := Lib.hid k3
        have K2 := Lib.hid k2
        clear k3 k1 k2 HGR HSW HCA
        go_wp2_with fail
        refine (awake10_any w6).mono ?_
        rintro e w7 ⟨rfl, hb⟩
        have HB7 := Lib.hid (HB6.out.trans (hb.mono hz6))
        have hz7 := HB7.out.size
        clear hb
        have CV := Lib.hid (cVars_any A (by omega) (Nat.le_trans HFA.out.2 (by omega)) w.heap.size pa ca w7 hz7 (HA.out.below HB7.out))
        rw [List.eq_nil_of_length_eq_zero HVA.out] at CV
        have CI := Lib.hid (fun (p : Option Addr) (c : Nat) (W : World) (h : IsIs W.heap.size W [] p c) => show Calls Tryz.prog 19 #[.slice none 0 0, .slice p 0 c] W (fun e u => e = .returned (.bool true) ∧ Below W.heap.size W u) from
          ints_any [] [] W.heap.size none 0 p c W (Nat.le_refl _) ⟨by simp, by simp [maxLen], .inl rfl⟩ h)
        rcases hc with rfl | rfl | rfl | rfl
        · have hlab : ((A.length : Int) == (B.length : Int)) = true := by rw [K3.out rfl]; simp
          go_wp2_with fail
          refine CV.out.mono ?_
          rintro e w8 ⟨v8, rfl, hi, hb⟩
          obtain ⟨p8, c8, rfl, hI8⟩ := ints_sl10 hi
          have HI8 := Lib.hid hI8
          have HB8 := Lib.hid (HB7.out.trans (hb.mono hz7))
          clear hb hi hI8 CV
          go_wp2_with fail
          refine (CI.out p8 c8 w8 HI8.out).mono ?_
          rintro e w9 ⟨rfl, hb⟩
          have HB9 := Lib.hid (HB8.out.trans (hb.mono HB8.out.size))
          clear hb
          go_wp2
          go_ret
          exact ⟨rfl, HB9.out⟩
        · go_wp2_with fail
          refine CV.out.mono ?_
          rintro e w8 ⟨v8, rfl, hi, hb⟩
          obtain ⟨p8, c8, rfl, hI8⟩ := ints_sl10 hi
          have HI8 := Lib.hid hI8
          have HB8 := Lib.hid (HB7.out.trans (hb.mono hz7))
          clear hb hi hI8 CV
          go_wp2_with fail
          refine (CI.out p8 c8 w8 HI8.out).mono ?_
          rintro e w9 ⟨rfl, hb⟩
          have HB9 := Lib.hid (HB8.out.trans (hb.mono HB8.out.size))
          clear hb
          go_wp2
          go_ret
          exact ⟨rfl, HB9.out⟩
        · go_wp2_with fail
          refine CV.out.mono ?_
          rintro e w8 ⟨v8, rfl, hi, hb⟩
          obtain ⟨p8, c8, rfl, hI8⟩ := ints_sl10 hi
          have HI8 := Lib.hid hI8
          have HB8 := Lib.hid (HB7.out.trans (hb.mono hz7))
          clear hb hi hI8 CV
          go_wp2_with fail
          refine (CI.out p8 c8 w8 HI8.out).mono ?_
          rintro e w9 ⟨rfl, hb⟩
          have HB9 := Lib.hid (HB8.out.trans (hb.mono HB8.out.size))
          clear hb
          go_wp2
          go_ret
          exact ⟨rfl, HB9.out⟩
        · exact absurd rfl K2.out

end Go.Proofs.YtbdabdjpgmnejaaGreat
