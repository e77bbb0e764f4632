/- The walk of ClausePairs. -/
import Derived.Test.YtbdabdjpgmnejaaGreatFw10
import Derived.Test.YtbdabdjpgmnejaaGreatAw10
import Derived.Test.YtbdabdjpgmnejaaGreatCmc
import Derived.Test.YtbdabdjpgmnejaaGreatApc
import Derived.Test.YtbdabdjpgmnejaaGreatQDg
import Derived.Test.YtbdabdjpgmnejaaGreatQDk
import Derived.Test.YtbdabdjpgmnejaaGreatQDf
namespace Go.Proofs.YtbdabdjpgmnejaaGreat
set_option linter.unusedVariables false
set_option linter.unusedSimpArgs false
open Go.RowKit

theorem endT_size (t : T) : (endT t).size ≤ 400 := by
  unfold endT
  by_cases h : t.check = 0
  · rw [if_pos h]; exact (check_ok h).1
  · rw [if_neg h]; simp [Z0, T.size, T.sizes]
theorem shfT_size (t : T) (y : Int) : (shfT t y).size ≤ 400 := by
  unfold shfT
  split
  · exact endT_size _
  · simp [Z0, T.size, T.sizes]
theorem apa_sz {A B : List Lt3} {P : List LV} (h : t3s P = apaL A B) : ∀ x ∈ P, x.sz := fun x hx => by
  have hx' : x.t3 ∈ apaL A B := by rw [← h]; exact List.mem_map.2 ⟨x, hx, rfl⟩
  unfold apaL at hx'
  split at hx'
  · obtain ⟨y, _, e⟩ := List.mem_map.1 hx'
    have e1 : shfT y.l (min (byC A) 255) = x.l := congrArg Lt3.l e
    have e2 : shfT y.r (min (byC A) 255) = x.r := congrArg Lt3.r e
    have h1 := shfT_size y.l (min (byC A) 255)
    have h2 := shfT_size y.r (min (byC A) 255)
    rw [e1] at h1
    rw [e2] at h2
    exact ⟨by omega, by omega⟩
  · cases hx'

set_option maxRecDepth 100000 in
set_option maxHeartbeats 8000000 in
theorem clausePairs_walk (g : Sg) (A B : List LV) (ga : Option Addr) (gc : Nat) (pa : Option Addr) (ca : Nat) (pb : Option Addr) (cb : Nat) (w : World) (hG : IsSg w.heap.size w g ga gc) (hA : IsCl w.heap.size w A pa ca) (hB : IsCl w.heap.size w B pb cb) :
    Calls Tryz.prog 3 #[.slice ga g.length gc, .slice pa A.length ca, .slice pb B.length cb] w fun e w' => e = .returned (.bool true) ∧ Below w.heap.size w w' := by
  have hla := hA.1
  have hla2 := hA.2.1
  have hlb := hB.1
  have hlb2 := hB.2.1
  unfold maxLen at hla2 hlb2
  have CF := Lib.hid (fewL10_any g A B w.heap.size ga gc pa ca pb cb w (Nat.le_refl _) hG hA hB)
  have HG := Lib.hid hG
  have HA := Lib.hid hA
  have HB := Lib.hid hB
  clear hG hA hB
  go_enter Tryz.func3, Tryz.ntmps3
  go_wp2_with fail
  refine CF.out.mono ?_
  rintro e w2 ⟨b, rfl, hf, hb⟩
  have HB2 := Lib.hid hb
  have hz2 := hb.size
  clear hb CF
  cases b with
  | false =>
    clear hf
    go_wp2
    go_ret
    exact ⟨rfl, HB2.out⟩
  | true =>
    obtain ⟨hfa, hfb⟩ := hf rfl
    have HFA := Lib.hid hfa
    have HFB := Lib.hid hfb
    have hl1 := hfa.1
    have hl2 := hfb.1
    clear hf hfa hfb
    by_cases hq : 16 < A.length + B.length
    · have hq' : (16 : Int) < (A.length : Int) + (B.length : Int) := by omega
      clear hq
      go_wp2
      go_ret
      exact ⟨rfl, HB2.out⟩
    · have hq' : decide ((16 : Int) < (A.length : Int) + (B.length : Int)) = false := decide_eq_false (by omega)
      clear hq
      go_wp2_with fail
      refine (cCompare_any g A B HFA.out.sz HFB.out.sz w.heap.size ga gc pa ca pb cb w2 hz2 (HG.out.below HB2.out) (HA.out.below HB2.out) (HB.out.below HB2.out)).mono ?_
      rintro e w3 ⟨rfl, hb⟩
      have HB3 := Lib.hid (HB2.out.trans (hb.mono hz2))
      have hz3 := HB3.out.size
      clear hb
      have C2 := Lib.hid (compare10_any g A B HFA.out.sz HFB.out.sz w.heap.size ga gc pa ca pb cb w3 hz3 (HG.out.below HB3.out) (HA.out.below HB3.out) (HB.out.below HB3.out))
      generalize ccR g (t3s A) (t3s B) = q1 at C2 ⊢
      generalize ccE g (t3s A) (t3s B) = q2 at C2 ⊢
      go_wp2_with fail
      refine C2.out.mono ?_
      rintro e w4 ⟨rfl, hb⟩
      have HB4 := Lib.hid (HB3.out.trans (hb.mono hz3))
      have hz4 := HB4.out.size
      clear hb C2
      go_wp2_with fail
      refine (cApart_any A B (by omega) (by omega) (Nat.le_trans HFA.out.2 (by omega)) (Nat.le_trans HFB.out.2 (by omega)) w.heap.size pa ca pb cb w4 hz4 (HA.out.below HB4.out) (HB.out.below HB4.out)).mono ?_
      rintro e w5 ⟨P, pp, cp, hP, rfl, hcP, hb⟩
      have HB5 := Lib.hid (HB4.out.trans (hb.mono hz4))
      have hz5 := HB5.out.size
      have HP := Lib.hid hP
      have HCP := Lib.hid hcP
      clear hb hP hcP
      have C4 := Lib.hid (apart10_any A B (by omega) (by omega) (Nat.le_trans HFA.out.2 (by omega)) (Nat.le_trans HFB.out.2 (by omega)) (Nat.le_trans (nm_size _) (Nat.le_trans HFB.out.2 (by omega))) w.heap.size pa ca pb cb w5 hz5 (HA.out.below HB5.out) (HB.out.below HB5.out))
      generalize apaE (t3s A) (t3s B) = q3 at C4 ⊢
      go_wp2_with fail
      refine C4.out.mono ?_
      rintro e w6 ⟨Q, pq, cq, hQ, rfl, hcQ, hb⟩
      have HB6 := Lib.hid (HB5.out.trans (hb.mono hz5))
      have hz6 := HB6.out.size
      have HE := Lib.hid (HP.out.trans hQ.symm)
      have HCQ := Lib.hid hcQ
      have HCP6 := Lib.hid ((HCP.out.below hb).mono hb.size)
      clear hb hQ hcQ C4
      go_wp2_with fail
      refine (awake10_any w6).mono ?_
      rintro e w7 ⟨rfl, hb⟩
      have HB7 := Lib.hid (HB6.out.trans (hb.mono hz6))
      have C5 := Lib.hid (exact10_any P Q HE.out (apa_sz HP.out) w7.heap.size pp cp pq cq w7 (Nat.le_refl _) ((HCP6.out.below hb).mono hb.size) ((HCQ.out.below hb).mono hb.size))
      have hz7 := HB7.out.size
      clear hb
      go_wp2_with fail
      refine C5.out.mono ?_
      rintro e w8 ⟨rfl, hb⟩
      have HB8 := Lib.hid (HB7.out.trans (hb.mono hz7))
      clear hb C5
      go_wp2
      go_ret
      exact ⟨rfl, HB8.out⟩

end Go.Proofs.YtbdabdjpgmnejaaGreat
