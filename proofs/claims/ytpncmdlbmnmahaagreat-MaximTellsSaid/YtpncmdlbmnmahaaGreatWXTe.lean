/- The walk of MaximTells. -/
import Derived.Test.YtpncmdlbmnmahaaGreatAw11
import Derived.Test.YtpncmdlbmnmahaaGreatMr4
import Derived.Test.YtpncmdlbmnmahaaGreatQBx
namespace Go.Proofs.YtpncmdlbmnmahaaGreat
set_option linter.unusedVariables false
set_option linter.unusedSimpArgs false
open Go.RowKit
set_option maxRecDepth 100000 in
set_option maxHeartbeats 8000000 in
theorem maximTells_walk (g : Sg) (P : List LV) (how i : Int) (s : Sb) (ga : Option Addr) (gc : Nat) (pa : Option Addr) (ca : Nat) (sa : Option Addr) (sc : Nat) (w : World) (hwh : (Lit.int .i64 how).wf = true) (hwi : (Lit.int .i64 i).wf = true) (hG : IsSg w.heap.size w g ga gc) (hP : IsCl w.heap.size w P pa ca) (hS : IsBs w.heap.size w s sa sc) :
    Calls Tryz.prog 3 #[.slice ga g.length gc, .slice pa P.length ca, .int .i64 how, .int .i64 i, .slice sa s.length sc] w fun e w' => e = .returned (.bool true) ∧ Below w.heap.size w w' := by
  have D := Lib.hid ((((Later.below (Below.refl _ w)).and (later_bs hS)).and (later_cl hP)).and (later_sg hG))
  clear hG hP hS hwh hwi
  go_enter Tryz.func3, Tryz.ntmps3
  go_wp2_with fail
  refine (few11_any g P w.heap.size ga gc pa ca w (Nat.le_refl _) D.out.now.1 D.out.now.2.1).mono ?_
  rintro e w2 ⟨b, rfl, hf, hb⟩
  have D2 := Lib.hid (D.out.mv hb)
  clear hb D
  cases b with
  | false =>
    have HQ := Lib.hid D2.out.now.2.2.2
    clear D2 hf
    go_wp2
    go_ret
    exact ⟨rfl, HQ.out⟩
  | true =>
  have HSZ := Lib.hid (show ∀ x ∈ P, x.sz from (hf rfl).1.sz)
  clear hf
  go_wp2_with fail
  refine (fewS_any s w2.heap.size sa sc w2 (Nat.le_refl _) D2.out.now.2.2.1).mono ?_
  rintro e w3 ⟨b, rfl, hfew, hb⟩
  have D3 := Lib.hid (D2.out.mv hb)
  clear hb D2
  cases b with
  | false =>
    have HQ := Lib.hid D3.out.now.2.2.2
    clear D3 hfew
    go_wp2
    go_ret
    exact ⟨rfl, HQ.out⟩
  | true =>
  have HUS := Lib.hid (show ∀ x ∈ s, x.2.size ≤ 1000000000000 from fun x hx => Nat.le_trans (hfew rfl x hx) (by omega))
  clear hfew
  go_wp2_with fail
  refine (xMaximal_any g P HSZ.out i false w3.heap.size ga gc pa ca w3 (Nat.le_refl _) D3.out.now.1 D3.out.now.2.1).mono ?_
  rintro e w4 ⟨rfl, hb⟩
  have D4 := Lib.hid (D3.out.mv hb)
  clear hb D3
  go_wp2_with fail
  refine (rMaximal_any g P HSZ.out i false w4.heap.size ga gc pa ca w4 (Nat.le_refl _) D4.out.now.1 D4.out.now.2.1).mono ?_
  rintro e w5 ⟨rfl, hb⟩
  have D5 := Lib.hid (D4.out.mv hb)
  clear hb D4
  generalize mxR g (t3s P) i false = r1
  go_wp2_with fail
  refine (xMaximal_any g P HSZ.out i true w5.heap.size ga gc pa ca w5 (Nat.le_refl _) D5.out.now.1 D5.out.now.2.1).mono ?_
  rintro e w6 ⟨rfl, hb⟩
  have D6 := Lib.hid (D5.out.mv hb)
  clear hb D5
  go_wp2_with fail
  refine (rMaximal_any g P HSZ.out i true w6.heap.size ga gc pa ca w6 (Nat.le_refl _) D6.out.now.1 D6.out.now.2.1).mono ?_
  rintro e w7 ⟨rfl, hb⟩
  have D7 := Lib.hid (D6.out.mv hb)
  clear hb D6
  generalize mxR g (t3s P) i true = r2
  generalize mxE g (t3s P) i = k1
  go_wp2_with fail
  refine (xSelect_any g P HSZ.out how w7.heap.size ga gc pa ca w7 (Nat.le_refl _) D7.out.now.1 D7.out.now.2.1).mono ?_
  rintro e w8 ⟨p8, c8, rfl, hI, hb⟩
  have D8 := Lib.hid ((D7.out.mv hb).and (later_is hI))
  clear hb D7 hI
  go_wp2_with fail
  refine (rSelect_any g P HSZ.out how w8.heap.size ga gc pa ca w8 (Nat.le_refl _) D8.out.now.2.1 D8.out.now.2.2.1).mono ?_
  rintro e w9 ⟨p9, c9, rfl, hI, hb⟩
  have D9 := Lib.hid ((D8.out.mv hb).and (later_is hI))
  clear hb D8 hI
  generalize seL g (t3s P) how = L at D9 ⊢
  generalize seE g (t3s P) how = k2
  go_wp2_with fail
  refine (xMay_any g P HSZ.out how i s HUS.out w9.heap.size ga gc pa ca sa sc w9 (Nat.le_refl _) D9.out.now.2.2.1 D9.out.now.2.2.2.1 D9.out.now.2.2.2.2.1).mono ?_
  rintro e w10 ⟨rfl, hb⟩
  have D10 := Lib.hid (D9.out.mv hb)
  clear hb D9
  go_wp2_with fail
  refine (rMay_any g P HSZ.out how i s HUS.out w10.heap.size ga gc pa ca sa sc w10 (Nat.le_refl _) D10.out.now.2.2.1 D10.out.now.2.2.2.1 D10.out.now.2.2.2.2.1).mono ?_
  rintro e w11 ⟨rfl, hb⟩
  have D11 := Lib.hid (D10.out.mv hb)
  clear hb D10
  generalize myR g (t3s P) how i s = r3
  generalize myE g (t3s P) how i s = k3
  go_wp2_with fail
  refine (awake11_any w11).mono ?_
  rintro e w12 ⟨rfl, hb⟩
  have D12 := Lib.hid (D11.out.mv hb)
  clear hb D11
  have CI := ints_any L L w12.heap.size p8 c8 p9 c9 w12 (Nat.le_refl _) D12.out.now.2.1 D12.out.now.1
  rw [show decide (L = L) = true from decide_eq_true rfl] at CI
  have HCI := Lib.hid CI
  clear CI
  go_wp2_with fail
  refine HCI.out.mono ?_
  rintro e w13 ⟨rfl, hb⟩
  have HQ := Lib.hid (D12.out.mv hb).now.2.2.2.2.2
  clear hb D12 HCI
  go_wp2
  go_ret
  exact ⟨by simp, HQ.out⟩
end Go.Proofs.YtpncmdlbmnmahaaGreat
