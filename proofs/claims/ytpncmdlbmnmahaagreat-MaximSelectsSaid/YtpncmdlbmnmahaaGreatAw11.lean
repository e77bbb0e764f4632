/- The document's example of layer 11. -/
import Derived.Test.YtpncmdlbmnmahaaGreatMm4
import Derived.Test.YtpncmdlbmnmahaaGreatQBw
import Derived.Test.YtpncmdlbmnmahaaGreatQBx
import Derived.BigQuiet
import Derived.Deep.QuietTactic
import Derived.Lib.QuietBelow
import Derived.Deep.RegionLaw
import Derived.Deep.RegionHeld3
import Derived.Deep.CutRange
namespace Go.Proofs.YtpncmdlbmnmahaaGreat
set_option linter.unusedVariables false
set_option linter.unusedSimpArgs false
open Go.RowKit
def F11 : T := .node 2 [A9]
def c11 : List Lt3 := [⟨false, A9, A9⟩, ⟨false, F11, A9⟩]
theorem ex11a : mxR g9 c11 1 true = true ∧ mxE g9 c11 1 = 0 := ⟨by kernel_rfl, by kernel_rfl⟩
theorem ex11b : mxR g9 c11 0 false = false ∧ mxE g9 c11 0 = 0 := ⟨by kernel_rfl, by kernel_rfl⟩
theorem ex11c : seL g9 c11 1 = [] ∧ seE g9 c11 1 = 0 := ⟨by kernel_rfl, by kernel_rfl⟩
theorem ex11d : myR g9 c11 1 1 [] = true ∧ myE g9 c11 1 1 [] = 0 := ⟨by kernel_rfl, by kernel_rfl⟩
def Y11 (bt : Nat) : LV := ⟨false, F11, A9, some ⟨bt, 0, none⟩, 1, none, 0⟩
def Z11 : LV := ⟨false, A9, A9, none, 0, none, 0⟩
def P11 (bt : Nat) : List LV := [Z11, Y11 bt]
theorem args11 {bt : Nat} {X : World} (h : Cs bt [.int .i64 1, .slice none 0 0] X) : IsArgs X.heap.size X F11.args (some ⟨bt, 0, none⟩) 1 := by
  obtain ⟨h1, h2⟩ := h
  exact ⟨by simp [F11, T.args], by simp [maxLen], .inr ⟨bt, 0, rfl, h1, ⟨by decide, h2 0 _ rfl, _, _, h2 1 _ rfl, by simp [A9, T.args], by simp [maxLen], .inl rfl⟩, trivial⟩⟩
theorem y11_mem {bt : Nat} {X : World} (h : Cs bt [.int .i64 1, .slice none 0 0] X) : IsLv X.heap.size X (Y11 bt) := ⟨(show (Lit.int .i64 2).wf = true from by decide), (show (Lit.int .i64 1).wf = true from by decide), args11 h, argsA9 X⟩
theorem z11_mem (X : World) : IsLv X.heap.size X Z11 := ⟨(show (Lit.int .i64 1).wf = true from by decide), (show (Lit.int .i64 1).wf = true from by decide), argsA9 X, argsA9 X⟩
theorem p11_mem {bc bt : Nat} {X : World} (h : Cs bc (lcells (P11 bt)) X) (hc : Cs bt [.int .i64 1, .slice none 0 0] X) : IsCl X.heap.size X (P11 bt) (some ⟨bc, 0, none⟩) 2 :=
  cl_cs h (by simp [P11, maxLen]) (fun x hx => by
    simp [P11] at hx
    rcases hx with rfl | rfl
    · exact z11_mem X
    · exact y11_mem hc)
theorem toy11_any (w : World) : Calls Tryz.prog 33 #[] w fun e u => ∃ bg : Nat, e = .returned (.slice (some ⟨bg, 0, none⟩) 3 3) ∧ Below w.heap.size w u ∧ Later (fun X => IsSg X.heap.size X g9 (some ⟨bg, 0, none⟩) 3) u := by
  go_enter Tryz.func33, Tryz.ntmps33
  go_wp2
  go_ret
  exact ⟨_, rfl, (Below.refl _ w).alloc (Nat.le_refl _) _, fun X hX => g9_mem ((later_cs w cells9.toArray 72) X hX)⟩
/-- What region 2 leaves: the example's clause. -/
def Cut11 (w2 : World) (v2 : Value) (wx : World) : Prop := ∃ bc bt : Nat, v2 = .slice (some ⟨bc, 0, none⟩) 2 2 ∧ Cs bc (lcells (P11 bt)) wx ∧ Cs bt [.int .i64 1, .slice none 0 0] wx ∧ Below w2.heap.size w2 wx
theorem cut11_new {w2 u : World} {bt : Nat} (h1 : Cs bt [.int .i64 1, .slice none 0 0] u) (hb : Below w2.heap.size w2 u) :
    Cut11 w2 (.slice (some ⟨u.heap.size, 0, none⟩) 2 2) (u.alloc (.cells #[.bool false, .int .i64 1, .slice none 0 0, .int .i64 1, .slice none 0 0, .bool false, .int .i64 2, .slice (some ⟨bt, 0, none⟩) 1 1, .int .i64 1, .slice none 0 0] 44)) :=
  ⟨_, bt, rfl, (later_cs u (lcells (P11 bt)).toArray 44).now, h1.al _, blAl hb _⟩
theorem bs_nil (n : Nat) (W : World) : IsBs n W [] none 0 := ⟨by simp, by simp [maxLen], .inl rfl⟩
set_option maxRecDepth 100000 in
set_option maxHeartbeats 4000000 in
theorem awake11_any (w : World) : Calls Tryz.prog 15 #[] w fun e w' => e = .returned (.bool true) ∧ Below w.heap.size w w' := by
  go_enter Tryz.func15, Tryz.ntmps15
  go_wp2_with fail
  refine (fun_any 1 none 0 0 _).mono ?_
  rintro e w1 ⟨rfl, hb1⟩
  have D1 := Lib.hid (Later.below hb1)
  clear hb1
  have D2 := Lib.hid (D1.out.pushC (Below.refl _ _) #[.int .i64 1, .slice none 0 0] 42)
  go_upto_region 2 with fail
  generalize w1.alloc (.cells #[.int .i64 1, .slice none 0 0] 42) = w2 at D2 ⊢
  generalize w1.heap.size = ba at D2 ⊢
  clear D1
  obtain ⟨hba, hbc⟩ := D2.out.now.1
  have f0 : w2.cell? ⟨ba, 0, none⟩ = some (.int .i64 1) := hbc 0 _ rfl
  have f1 : w2.cell? ⟨ba, 1, none⟩ = some (.slice none 0 0) := hbc 1 _ rfl
  clear hbc
  go_cut [2] from 12 to 20 (fun v2 wx => Cut11 w2 v2 wx)
  case first =>
    --BEGIN
    have KS := Lib.hid (show ∀ W, Below w2.heap.size w2 W → (W.cell? ⟨ba, 0, none⟩ = some (.int .i64 1) ∧ W.cell? ⟨ba, 1, none⟩ = some (.slice none 0 0)) ∧ Below w2.heap.size w2 W from fun W hW =>
      ⟨⟨(hW.cell (p := ⟨ba, 0, none⟩) hba).trans f0, (hW.cell (p := ⟨ba, 1, none⟩) hba).trans f1⟩, hW⟩)
    refine wp_region_noPanic ?_
    go_region_held3 (fun w' => (w'.cell? ⟨ba, 0, none⟩ = some (.int .i64 1) ∧ w'.cell? ⟨ba, 1, none⟩ = some (.slice none 0 0)) ∧ Below w2.heap.size w2 w')
      (first
        | with_reducible exact KS.out _ (Below.refl _ _)
        | with_reducible exact KS.out _ (Below.refl _ _).drew
        | with_reducible exact KS.out _ hB1
        | with_reducible exact KS.out _ (blAl hB1 _)
        | (refine KS.out _ ?_; focus ((repeat (first | with_reducible exact Below.refl _ _ | refine blAl ?_ _ | refine blDr ?_)); done)))
      (first | (go_at_call 32; with_reducible refine (fun_any 2 _ 1 1 _).mono ?_; rintro e u1 ⟨rfl, h1⟩; (refine blHave (A := w2) (X := u1) ?_ h1 ?_; (focus ((repeat (first | exact Below.refl _ _ | refine blDr ?_ | refine blAl ?_ _)); done)); intro rbl1); (refine csHave (b := w2.heap.size) (cs := [.int .i64 1, .slice none 0 0]) (X := u1) ?_ h1 ?_; (focus ((repeat (first | (refine Cs.new' ?_; (focus (simp; done))) | refine Cs.dr ?_ | refine Cs.al ?_ _)); done)); intro rc0); have hB1 := rbl1.out))
    all_goals
      refine NoPanic.normal ?_
      go_wp2
      go_meet
      with_reducible exact cut11_new rc0.out rbl1.out
    --END
  case rest =>
    obtain ⟨bc, bt, rfl, hcc, hct, hB⟩ := hcut
    obtain ⟨w5, rfl⟩ : ∃ w5, w5 = wc := ⟨_, rfl⟩
    have D5 := Lib.hid (show Later (fun X => IsCl X.heap.size X (P11 bt) (some ⟨bc, 0, none⟩) 2 ∧ Below w.heap.size w X) w5 from fun X hX => ⟨p11_mem (hcc.bl hX) (hct.bl hX), (D2.out X (hB.trans (hX.mono hB.size))).2⟩)
    have hsz : ∀ x ∈ P11 bt, x.sz := fun x hx => by
      simp [P11] at hx
      rcases hx with rfl | rfl <;> simp [LV.sz, Z11, Y11, A9, F11, T.size, T.sizes]
    have M1 := Lib.hid (fun (bg : Nat) (W : World) (hG : IsSg W.heap.size W g9 (some ⟨bg, 0, none⟩) 3) (hP : IsCl W.heap.size W (P11 bt) (some ⟨bc, 0, none⟩) 2) => (by
      have h := xMaximal_any g9 (P11 bt) hsz 1 true W.heap.size (some ⟨bg, 0, none⟩) 3 (some ⟨bc, 0, none⟩) 2 W (Nat.le_refl _) hG hP
      unfold MxPost at h
      rw [show t3s (P11 bt) = c11 from rfl, ex11a.1, ex11a.2] at h
      exact h : Calls Tryz.prog 9 #[.slice (some ⟨bg, 0, none⟩) 3 3, .slice (some ⟨bc, 0, none⟩) 2 2, .int .i64 1, .bool true] W (fun e w' => e = .returned (.tuple #[.bool true, .int .i64 0]) ∧ Below W.heap.size W w')))
    have M2 := Lib.hid (fun (bg : Nat) (W : World) (hG : IsSg W.heap.size W g9 (some ⟨bg, 0, none⟩) 3) (hP : IsCl W.heap.size W (P11 bt) (some ⟨bc, 0, none⟩) 2) => (by
      have h := xMaximal_any g9 (P11 bt) hsz 0 false W.heap.size (some ⟨bg, 0, none⟩) 3 (some ⟨bc, 0, none⟩) 2 W (Nat.le_refl _) hG hP
      unfold MxPost at h
      rw [show t3s (P11 bt) = c11 from rfl, ex11b.1, ex11b.2] at h
      exact h : Calls Tryz.prog 9 #[.slice (some ⟨bg, 0, none⟩) 3 3, .slice (some ⟨bc, 0, none⟩) 2 2, .int .i64 0, .bool false] W (fun e w' => e = .returned (.tuple #[.bool false, .int .i64 0]) ∧ Below W.heap.size W w')))
    have M3 := Lib.hid (fun (bg : Nat) (W : World) (hG : IsSg W.heap.size W g9 (some ⟨bg, 0, none⟩) 3) (hP : IsCl W.heap.size W (P11 bt) (some ⟨bc, 0, none⟩) 2) => (by
      have h := xSelect_any g9 (P11 bt) hsz 1 W.heap.size (some ⟨bg, 0, none⟩) 3 (some ⟨bc, 0, none⟩) 2 W (Nat.le_refl _) hG hP
      refine h.mono ?_
      rintro e w' ⟨p, c', he, _, hb⟩
      rw [show t3s (P11 bt) = c11 from rfl, ex11c.1, ex11c.2] at he
      exact ⟨p, c', he, hb⟩ : Calls Tryz.prog 11 #[.slice (some ⟨bg, 0, none⟩) 3 3, .slice (some ⟨bc, 0, none⟩) 2 2, .int .i64 1] W (fun e w' => ∃ (p : Option Addr) (c' : Nat), e = .returned (.tuple #[.slice p 0 c', .int .i64 0]) ∧ Below W.heap.size W w')))
    have M4 := Lib.hid (fun (bg : Nat) (W : World) (hG : IsSg W.heap.size W g9 (some ⟨bg, 0, none⟩) 3) (hP : IsCl W.heap.size W (P11 bt) (some ⟨bc, 0, none⟩) 2) => (by
      have h := xMay_any g9 (P11 bt) hsz 1 1 [] (by simp) W.heap.size (some ⟨bg, 0, none⟩) 3 (some ⟨bc, 0, none⟩) 2 none 0 W (Nat.le_refl _) hG hP (bs_nil _ _)
      unfold MyPost at h
      rw [show t3s (P11 bt) = c11 from rfl, ex11d.1, ex11d.2] at h
      exact h : Calls Tryz.prog 13 #[.slice (some ⟨bg, 0, none⟩) 3 3, .slice (some ⟨bc, 0, none⟩) 2 2, .int .i64 1, .int .i64 1, .slice none 0 0] W (fun e w' => e = .returned (.tuple #[.bool true, .int .i64 0]) ∧ Below W.heap.size W w')))
    clear hcc hct hB D2 f0 f1 hba hsz
    go_wp2_with fail
    refine (toy11_any w5).mono ?_
    rintro e w6 ⟨bg, rfl, hb, LG⟩
    have HG := Lib.hid LG.now
    have D6 := Lib.hid (D5.out.mv hb)
    clear hb LG D5
    go_wp2_with fail
    refine (M1.out bg w6 HG.out D6.out.now.1).mono ?_
    rintro e w7 ⟨rfl, hb⟩
    have D7 := Lib.hid (D6.out.mv hb)
    clear hb D6 HG M1
    go_wp2_with fail
    refine (toy11_any w7).mono ?_
    rintro e w8 ⟨bg2, rfl, hb, LG⟩
    have HG := Lib.hid LG.now
    have D8 := Lib.hid (D7.out.mv hb)
    clear hb LG D7
    go_wp2_with fail
    refine (M2.out bg2 w8 HG.out D8.out.now.1).mono ?_
    rintro e w9 ⟨rfl, hb⟩
    have D9 := Lib.hid (D8.out.mv hb)
    clear hb D8 HG M2
    go_wp2_with fail
    refine (toy11_any w9).mono ?_
    rintro e w10 ⟨bg3, rfl, hb, LG⟩
    have HG := Lib.hid LG.now
    have D10 := Lib.hid (D9.out.mv hb)
    clear hb LG D9
    go_wp2_with fail
    refine (M3.out bg3 w10 HG.out D10.out.now.1).mono ?_
    rintro e w11 ⟨p, c', rfl, hb⟩
    have D11 := Lib.hid (D10.out.mv hb)
    clear hb D10 HG M3
    go_wp2_with fail
    refine (toy11_any w11).mono ?_
    rintro e w12 ⟨bg4, rfl, hb, LG⟩
    have HG := Lib.hid LG.now
    have D12 := Lib.hid (D11.out.mv hb)
    clear hb LG D11
    go_wp2_with fail
    refine (M4.out bg4 w12 HG.out D12.out.now.1).mono ?_
    rintro e w13 ⟨rfl, hb⟩
    have HQ := Lib.hid (D12.out.mv hb).now.2
    clear hb D12 HG M4
    go_wp2
    go_ret
    exact ⟨rfl, HQ.out⟩
/-! ### few -/
def FwPost11 (P : List LV) (w : World) (e : Ending) (w' : World) : Prop := ∃ b : Bool, e = .returned (.bool b) ∧ (b = true → FewC P ∧ P.length ≤ 33) ∧ Below w.heap.size w w'
set_option maxRecDepth 100000 in
set_option maxHeartbeats 2000000 in
theorem few11_any (g : Sg) (P : List LV) (n₀ : Nat) (ga : Option Addr) (gc : Nat) (pa : Option Addr) (ca : Nat) (w : World) (hn : n₀ ≤ w.heap.size) (hG : IsSg n₀ w g ga gc) (hP : IsCl n₀ w P pa ca) :
    Calls Tryz.prog 7 #[.slice ga g.length gc, .slice pa P.length ca] w (FwPost11 P w) := by
  have hlc : P.length ≤ ca ∧ ca ≤ maxLen := ⟨hP.1, hP.2.1⟩
  unfold maxLen at hlc
  obtain ⟨hl1, hl2⟩ := hlc
  have HP := Lib.hid (hP.mono hn)
  have CG := Lib.hid (fewG_any g n₀ ga gc w hn hG)
  clear hG hP
  go_enter Tryz.func7, Tryz.ntmps7
  go_wp2_with fail
  refine CG.out.mono ?_
  rintro e w2 ⟨b, rfl, hb⟩
  have HB2 := Lib.hid hb
  clear hb CG
  cases b with
  | false =>
    go_wp2
    go_ret
    exact ⟨false, rfl, (fun h => by cases h), HB2.out⟩
  | true =>
    go_wp2_with fail
    refine (few10_any P w.heap.size pa ca w2 HB2.out.size (HP.out.below HB2.out)).mono ?_
    rintro e w3 ⟨b, rfl, hf, hb⟩
    have HB3 := Lib.hid (HB2.out.trans (hb.mono HB2.out.size))
    have HF := Lib.hid hf
    clear hb hf
    cases b with
    | false =>
      go_wp2
      go_ret
      exact ⟨false, rfl, (fun h => by cases h), HB3.out⟩
    | true =>
      by_cases h33 : P.length ≤ 33
      · have h33' : (P.length : Int) ≤ 33 := by omega
        go_wp2
        go_ret
        exact ⟨true, rfl, fun _ => ⟨HF.out (by trivial), h33⟩, HB3.out⟩
      · have h33' : decide ((P.length : Int) ≤ 33) = false := decide_eq_false (by omega)
        go_wp2
        go_ret
        exact ⟨false, rfl, (fun h => by cases h), HB3.out⟩
end Go.Proofs.YtpncmdlbmnmahaaGreat
