/- The walk of MaximPuts. -/
import Derived.Test.YtpncmdlbmnmahaaGreatAw11
import Derived.Test.YtpncmdlbmnmahaaGreatQBx
namespace Go.Proofs.YtpncmdlbmnmahaaGreat
set_option linter.unusedVariables false
set_option linter.unusedSimpArgs false
open Go.RowKit
set_option maxRecDepth 100000 in
set_option maxHeartbeats 8000000 in
theorem maximPuts_walk (g : Sg) (P : List LV) (i : Int) (s : Sb) (ga : Option Addr) (gc : Nat) (pa : Option Addr) (ca : Nat) (sa : Option Addr) (sc : Nat) (w : World) (hwi : (Lit.int .i64 i).wf = true) (hG : IsSg w.heap.size w g ga gc) (hP : IsCl w.heap.size w P pa ca) (hS : IsBs w.heap.size w s sa sc) :
    Calls Tryz.prog 5 #[.slice ga g.length gc, .slice pa P.length ca, .int .i64 i, .slice sa s.length sc] w fun e w' => e = .returned (.bool true) ∧ Below w.heap.size w w' := by
  have D := Lib.hid ((((Later.below (Below.refl _ w)).and (later_bs hS)).and (later_cl hP)).and (later_sg hG))
  clear hG hP hS hwi
  go_enter Tryz.func5, Tryz.ntmps5
  go_wp2_with fail
  refine (few11_any g P w.heap.size ga gc pa ca w (Nat.le_refl _) D.out.now.1 D.out.now.2.1).mono ?_
  rintro e w2 ⟨b, rfl, hf, hb⟩
  have D2 := Lib.hid (D.out.mv hb)
  clear hb D
  cases b with
  | false =>
    have HQ := Lib.hid D2.out.now.2.2.2
    clear D2 hf
    go_wp2
    go_ret
    exact ⟨rfl, HQ.out⟩
  | true =>
  have HSZ := Lib.hid (show ∀ x ∈ P, x.sz from (hf rfl).1.sz)
  clear hf
  go_wp2_with fail
  refine (fewS_any s w2.heap.size sa sc w2 (Nat.le_refl _) D2.out.now.2.2.1).mono ?_
  rintro e w3 ⟨b, rfl, hfew, hb⟩
  have D3 := Lib.hid (D2.out.mv hb)
  clear hb D2
  cases b with
  | false =>
    have HQ := Lib.hid D3.out.now.2.2.2
    clear D3 hfew
    go_wp2
    go_ret
    exact ⟨rfl, HQ.out⟩
  | true =>
  have HUS := Lib.hid (show ∀ x ∈ s, x.2.size ≤ 1000000000000 from fun x hx => Nat.le_trans (hfew rfl x hx) (by omega))
  clear hfew
  go_wp2_with fail
  refine (cApply_any s HUS.out P HSZ.out w3.heap.size sa sc pa ca w3 (Nat.le_refl _) D3.out.now.2.2.1 D3.out.now.2.1).mono ?_
  rintro e w4 ⟨O, p4, c4, hO, rfl, hcl, hb⟩
  have D4 := Lib.hid ((D3.out.mv hb).and (later_cl hcl))
  have HO := Lib.hid hO
  clear hb D3 hcl hO
  go_wp2_with fail
  refine (xMaximal_any g P HSZ.out i false w4.heap.size ga gc pa ca w4 (Nat.le_refl _) D4.out.now.2.1 D4.out.now.2.2.1).mono ?_
  rintro e w5 ⟨rfl, hb⟩
  have D5 := Lib.hid (D4.out.mv hb)
  clear hb D4
  go_wp2_with fail
  refine (xMaximal_any g O (acL_sz HO.out) i true w5.heap.size ga gc p4 c4 w5 (Nat.le_refl _) D5.out.now.2.1 D5.out.now.1).mono ?_
  rw [HO.out]
  rintro e w6 ⟨rfl, hb⟩
  have D6 := Lib.hid (D5.out.mv hb)
  clear hb D5
  have HT := Lib.hid (top_put (g := g) (C := t3s P) (s := s) (i := i))
  generalize acE s (t3s P) = k1 at HT ⊢
  generalize mxE g (acL s (t3s P)) i = k3 at HT ⊢
  generalize mxR g (acL s (t3s P)) i true = r3 at HT ⊢
  generalize mxE g (t3s P) i = k2 at HT ⊢
  generalize mxR g (t3s P) i false = r2 at HT ⊢
  have ht : k1 ≠ 0 ∨ (k1 = 0 ∧ k2 ≠ 0) ∨ (k1 = 0 ∧ k2 = 0 ∧ k3 ≠ 0) ∨ (k1 = 0 ∧ k2 = 0 ∧ k3 = 0) := by omega
  rcases ht with h1 | ⟨rfl, h1⟩ | ⟨rfl, rfl, h1⟩ | ⟨rfl, rfl, rfl⟩
  · have h2 : (k1 != 0) = true := by simpa using h1
    clear h1 HT
    go_wp2_with fail
    refine (awake11_any w6).mono ?_
    rintro e w7 ⟨rfl, hb⟩
    have HQ := Lib.hid (D6.out.mv hb).now.2.2.2.2
    clear hb D6
    go_wp2
    go_ret
    exact ⟨rfl, HQ.out⟩
  · have h2 : (k2 != 0) = true := by simpa using h1
    clear h1 HT
    go_wp2_with fail
    refine (awake11_any w6).mono ?_
    rintro e w7 ⟨rfl, hb⟩
    have HQ := Lib.hid (D6.out.mv hb).now.2.2.2.2
    clear hb D6
    go_wp2
    go_ret
    exact ⟨rfl, HQ.out⟩
  · have h2 : (k3 != 0) = true := by simpa using h1
    clear h1 HT
    go_wp2_with fail
    refine (awake11_any w6).mono ?_
    rintro e w7 ⟨rfl, hb⟩
    have HQ := Lib.hid (D6.out.mv hb).now.2.2.2.2
    clear hb D6
    go_wp2
    go_ret
    exact ⟨rfl, HQ.out⟩
  · have hr := HT.out rfl rfl rfl
    clear HT
    go_wp2_with fail
    refine (awake11_any w6).mono ?_
    rintro e w7 ⟨rfl, hb⟩
    have HQ := Lib.hid (D6.out.mv hb).now.2.2.2.2
    clear hb D6
    rcases hr with rfl | rfl
    · go_wp2
      go_ret
      exact ⟨rfl, HQ.out⟩
    · cases r2
      all_goals
        go_wp2
        go_ret
        exact ⟨rfl, HQ.out⟩
end Go.Proofs.YtpncmdlbmnmahaaGreat
