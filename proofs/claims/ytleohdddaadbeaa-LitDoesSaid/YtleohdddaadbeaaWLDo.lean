/- The walk of LitDoes. -/
import Derived.Test.YtleohdddaadbeaaQDe
import Derived.Test.YtleohdddaadbeaaQDf
import Derived.Test.YtleohdddaadbeaaQDg
import Derived.Test.YtleohdddaadbeaaAw9
import Derived.BigQuiet
import Derived.Deep.QuietTactic
import Derived.Lib.QuietBelow
namespace Go.Proofs.Ytleohdddaadbeaa
set_option linter.unusedVariables false
set_option linter.unusedSimpArgs false
open Go.RowKit

set_option maxRecDepth 100000 in
set_option maxHeartbeats 8000000 in
theorem litDoes_walk (g : Sg) (x y : LV) (s : Sb) (ga : Option Addr) (gc : Nat) (as_ : Option Addr) (cs : Nat) (w : World) (hG : IsSg w.heap.size w g ga gc) (hX : IsLv w.heap.size w x) (hY : IsLv w.heap.size w y) (hS : IsBs w.heap.size w s as_ cs) :
    Calls Try.prog 3 #[.slice ga g.length gc, x.v, y.v, .slice as_ s.length cs] w fun e w' => e = .returned (.bool true) ∧ Below w.heap.size w w' := by
  have d0 := ((((((Later.below (Below.refl _ w)).and (later_bs hS)).and (later_lv hY)).and (later_lv hX)).and (later_sg hG)).pushL (Below.refl _ _) x).pushL (Below.refl _ _) y
  simp only [heap_alloc_size] at d0
  have D := Lib.hid d0
  clear d0 hG hX hY hS
  go_enter Try.func3, Try.ntmps3
  go_wp2_with fail
  generalize (w.alloc x.obj).alloc y.obj = w1 at D ⊢
  generalize hb0 : w.heap.size = b0 at D ⊢
  have HB0 := Lib.hid hb0
  clear hb0
  refine (fewG_any g w1.heap.size ga gc w1 (Nat.le_refl _) D.out.now.2.2.1).mono ?_
  rintro e w2 ⟨f1, rfl, hb⟩
  have D2 := Lib.hid (D.out.mv hb)
  clear hb D
  cases f1
  case false =>
    have HQ := Lib.hid D2.out.now.2.2.2.2.2.2
    clear D2
    go_wp2
    go_ret
    exact ⟨rfl, by rw [HB0.out]; exact HQ.out⟩
  obtain ⟨_, ⟨x0, x1, x2, x3, x4⟩, _⟩ := D2.out.now
  go_wp2_with fail
  clear x0 x1 x2 x3 x4
  refine (litFew_any x w2.heap.size w2 (Nat.le_refl _) D2.out.now.2.2.2.1).mono ?_
  rintro e w3 ⟨f1, rfl, hf, hb⟩
  have D3 := Lib.hid (D2.out.mv hb)
  clear hb D2
  cases f1
  case false =>
    have HQ := Lib.hid D3.out.now.2.2.2.2.2.2
    clear D3 hf
    go_wp2
    go_ret
    exact ⟨rfl, by rw [HB0.out]; exact HQ.out⟩
  have FX := Lib.hid (sz_few (hf rfl))
  clear hf
  obtain ⟨⟨x0, x1, x2, x3, x4⟩, _⟩ := D3.out.now
  go_wp2_with fail
  clear x0 x1 x2 x3 x4
  refine (litFew_any y w3.heap.size w3 (Nat.le_refl _) D3.out.now.2.2.2.2.1).mono ?_
  rintro e w4 ⟨f1, rfl, hf, hb⟩
  have D4 := Lib.hid (D3.out.mv hb)
  clear hb D3
  cases f1
  case false =>
    have HQ := Lib.hid D4.out.now.2.2.2.2.2.2
    clear D4 hf
    go_wp2
    go_ret
    exact ⟨rfl, by rw [HB0.out]; exact HQ.out⟩
  have FY := Lib.hid (sz_few (hf rfl))
  clear hf
  go_wp2_with fail
  refine (fewS_any s w4.heap.size as_ cs w4 (Nat.le_refl _) D4.out.now.2.2.2.2.2.1).mono ?_
  rintro e w5 ⟨f1, rfl, hf, hb⟩
  have D5 := Lib.hid (D4.out.mv hb)
  clear hb D4
  cases f1
  case false =>
    have HQ := Lib.hid D5.out.now.2.2.2.2.2.2
    clear D5 hf
    go_wp2
    go_ret
    exact ⟨rfl, by rw [HB0.out]; exact HQ.out⟩
  have FS := Lib.hid (show ∀ x ∈ s, x.2.size ≤ 1000000000000 from fun x hx => by have := hf rfl x hx; omega)
  clear hf
  obtain ⟨_, ⟨x0, x1, x2, x3, x4⟩, _⟩ := D5.out.now
  go_wp2_with fail
  clear x0 x1 x2 x3 x4
  refine (litApply_any s FS.out x FX.out w5.heap.size as_ cs w5 (Nat.le_refl _) D5.out.now.2.2.2.2.2.1 D5.out.now.2.2.2.1).mono ?_
  rintro e w6 ⟨z, rfl, en, el, er, hZ, hb⟩
  have D6 := Lib.hid (((D5.out.mv hb).and (later_lv hZ)).pushL (Below.refl _ _) z)
  have EZ := Lib.hid (And.intro en (And.intro el er))
  clear hb D5 hZ en el er
  obtain ⟨w7, hw7⟩ : ∃ w7, w6.alloc z.obj = w7 := ⟨_, rfl⟩
  rw [hw7] at D6
  obtain ⟨_, _, _, ⟨x0, x1, x2, x3, x4⟩, _⟩ := D6.out.now
  go_wp2_with fail
  clear x0 x1 x2 x3 x4
  refine (rLitApply_any s FS.out x FX.out w7.heap.size as_ cs w7 (Nat.le_refl _) D6.out.now.2.2.2.2.2.2.2.1 D6.out.now.2.2.2.2.2.1).mono ?_
  rintro e w8 ⟨u, rfl, en, el, er, hU, hb⟩
  have D8 := Lib.hid (((D6.out.mv hb).and (later_lv hU)).pushL (Below.refl _ _) u)
  have EU := Lib.hid (And.intro en (And.intro el er))
  clear hb D6 hU en el er hw7
  obtain ⟨w9, hw9⟩ : ∃ w9, w8.alloc u.obj = w9 := ⟨_, rfl⟩
  rw [hw9] at D8
  go_wp2
  clear hw9
  have NF := Lib.hid (fun (W : World) (hW : Below w9.heap.size w9 W) => (D8.out.mv hW).now)
  have HQ := Lib.hid D8.out.now.2.2.2.2.2.2.2.2.2.2
  have AW := Lib.hid (fun (W : World) => awake9_any W)
  have K1 := Lib.hid (fun (W : World) (hW : Below w9.heap.size w9 W) => litCheck_any g x FX.out W.heap.size ga gc W (Nat.le_refl _) (NF.out W hW).2.2.2.2.2.2.1 (NF.out W hW).2.2.2.2.2.2.2.1)
  have K2 := Lib.hid (fun (W : World) (hW : Below w9.heap.size w9 W) => rLitCheck_any g x FX.out W.heap.size ga gc W (Nat.le_refl _) (NF.out W hW).2.2.2.2.2.2.1 (NF.out W hW).2.2.2.2.2.2.2.1)
  have S1 := Lib.hid (fun (W : World) (hW : Below w9.heap.size w9 W) => litSame_any x y FX.out W.heap.size W (Nat.le_refl _) (NF.out W hW).2.2.2.2.2.2.2.1 (NF.out W hW).2.2.2.2.2.2.2.2.1)
  have S2 := Lib.hid (fun (W : World) (hW : Below w9.heap.size w9 W) => rLitSame_any x y FX.out FY.out W.heap.size W (Nat.le_refl _) (NF.out W hW).2.2.2.2.2.2.2.1 (NF.out W hW).2.2.2.2.2.2.2.2.1)
  have O1 := Lib.hid (fun (W : World) (hW : Below w9.heap.size w9 W) => litOpposite_any x y FX.out W.heap.size W (Nat.le_refl _) (NF.out W hW).2.2.2.2.2.2.2.1 (NF.out W hW).2.2.2.2.2.2.2.2.1)
  have O2 := Lib.hid (fun (W : World) (hW : Below w9.heap.size w9 W) => rLitOpposite_any x y FX.out FY.out W.heap.size W (Nat.le_refl _) (NF.out W hW).2.2.2.2.2.2.2.1 (NF.out W hW).2.2.2.2.2.2.2.2.1)
  have T1 := Lib.hid (fun (W : World) (hW : Below w9.heap.size w9 W) => litTrivial_any x FX.out W.heap.size W (Nat.le_refl _) (NF.out W hW).2.2.2.2.2.2.2.1)
  have T2 := Lib.hid (fun (W : World) (hW : Below w9.heap.size w9 W) => rLitTrivial_any x FX.out W.heap.size W (Nat.le_refl _) (NF.out W hW).2.2.2.2.2.2.2.1)
  have hzs : z.sz := by
    refine ⟨?_, ?_⟩
    · rw [EZ.out.2.1]; exact (ap_size s x).1
    · rw [EZ.out.2.2]; exact (ap_size s x).2
  have EX := Lib.hid (fun (W : World) (hW : Below w9.heap.size w9 W) => exactAt_any z u (EU.out.1.trans EZ.out.1.symm) (EZ.out.2.1.trans EU.out.2.1.symm) (EZ.out.2.2.trans EU.out.2.2.symm) hzs W.heap.size W (Nat.le_refl _) (NF.out W hW).2.2.2.1 (NF.out W hW).2.1)
  obtain ⟨⟨u0, u1, u2, u3, u4⟩, _, ⟨z0, z1, z2, z3, z4⟩, _, ⟨y0, y1, y2, y3, y4⟩, ⟨x0, x1, x2, x3, x4⟩, _⟩ := D8.out.now
  clear D8 NF FX FY FS EZ EU hzs
  generalize errL g x.l x.r = E at K1 K2
  generalize samL x.n x.l x.r y.n y.l y.r = sm at S1 S2
  generalize oppL x.n x.l x.r y.n y.l y.r = op at O1 O2
  generalize sameB x.l x.r = tv at T1 T2
  generalize apK s x = ke
  have fu0 := fun d os => cell_regrown u0 d os
  have fu1 := fun d os => cell_regrown u1 d os
  have fu2 := fun d os => cell_regrown u2 d os
  have fu3 := fun d os => cell_regrown u3 d os
  have fu4 := fun d os => cell_regrown u4 d os
  have fz0 := fun d os => cell_regrown z0 d os
  have fz1 := fun d os => cell_regrown z1 d os
  have fz2 := fun d os => cell_regrown z2 d os
  have fz3 := fun d os => cell_regrown z3 d os
  have fz4 := fun d os => cell_regrown z4 d os
  have fy0 := fun d os => cell_regrown y0 d os
  have fy1 := fun d os => cell_regrown y1 d os
  have fy2 := fun d os => cell_regrown y2 d os
  have fy3 := fun d os => cell_regrown y3 d os
  have fy4 := fun d os => cell_regrown y4 d os
  have fx0 := fun d os => cell_regrown x0 d os
  have fx1 := fun d os => cell_regrown x1 d os
  have fx2 := fun d os => cell_regrown x2 d os
  have fx3 := fun d os => cell_regrown x3 d os
  have fx4 := fun d os => cell_regrown x4 d os
  clear x0 x1 x2 x3 x4 y0 y1 y2 y3 y4 z0 z1 z2 z3 z4 u0 u1 u2 u3 u4
  refine wp_region_wq (by kernel_rfl) (by kernel_rfl) ?_
  repeat (first
    | (refine WQ.skip (by rfl) ?_; simp only [Act.put, List.setIfInBounds_toArray, List.set_cons_succ, List.set_cons_zero])
    | (apply WQ.two (by rfl); (intro w' hw'; obtain ⟨pq, rfl⟩ := hw'; go_simp; first | (with_reducible exact Calls.regrown_of (AW.out _)) | (with_reducible exact Calls.regrown_of (K1.out _ (below_regrown _ _ _))) | (with_reducible exact Calls.regrown_of (K2.out _ (below_regrown _ _ _))) | (with_reducible exact Calls.regrown_of (S1.out _ (below_regrown _ _ _))) | (with_reducible exact Calls.regrown_of (S2.out _ (below_regrown _ _ _))) | (with_reducible exact Calls.regrown_of (O1.out _ (below_regrown _ _ _))) | (with_reducible exact Calls.regrown_of (O2.out _ (below_regrown _ _ _))) | (with_reducible exact Calls.regrown_of (T1.out _ (below_regrown _ _ _))) | (with_reducible exact Calls.regrown_of (T2.out _ (below_regrown _ _ _))) | (with_reducible exact Calls.regrown_of (EX.out _ (below_regrown _ _ _))) | exact rfl); simp only [Act.put, List.setIfInBounds_toArray, List.set_cons_succ, List.set_cons_zero]))
  refine WQ.nil ?_
  intro _ hw'
  obtain ⟨⟨dq, osq⟩, hw''⟩ := hw'
  subst hw''
  go_wp2
  go_ret
  exact ⟨rfl, by rw [HB0.out]; exact HQ.out.trans ((below_regrown w9 dq osq).mono (by have := HQ.out.size; have := HB0.out; omega))⟩

end Go.Proofs.Ytleohdddaadbeaa
