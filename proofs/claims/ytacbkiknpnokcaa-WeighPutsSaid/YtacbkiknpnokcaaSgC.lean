/- Contract of weigh's Term. -/
import Derived.Test.YtacbkiknpnokcaaSgB
namespace Go.Proofs.Ytacbkiknpnokcaa
set_option linter.unusedVariables false
set_option linter.unusedSimpArgs false
open Go.RowKit

theorem fits_args {g : Sg} {t : T} (hf : fitsT g t = true) (hb : bad (T.subs 1 t) = false) : ∀ s ∈ t.args, fitsT g s = true ∧ bad (T.subs 1 s) = false := by
  intro s hs
  obtain ⟨k, hk⟩ := List.getElem?_of_mem hs
  refine ⟨?_, good_arg hb hk⟩
  rw [fitsT_eq] at hf
  simp only [Bool.or_eq_true, decide_eq_true_eq, Bool.and_eq_true, fitsL_all, List.all_eq_true] at hf
  rcases hf with h | h
  · rw [good_var hb h] at hs; simp at hs
  · exact h.2 s hs

set_option maxRecDepth 100000 in
set_option maxHeartbeats 2000000 in
theorem sgTerm_any (g : Sg) (t : T) (hsz : t.size ≤ 1000000000000) (n₀ : Nat) (ga : Option Addr) (gc : Nat) (a : Option Addr) (c : Nat) (w : World) (hn : n₀ ≤ w.heap.size) (hG : IsSg n₀ w g ga gc) (hwf : (Lit.int .i64 t.head).wf = true) (hA : IsArgs n₀ w t.args a c) :
    Calls Try.prog 18 #[.slice ga g.length gc, tm t.head a t.args.length c] w fun e w' => e = .returned (.int .i64 (errT g t)) ∧ Below w.heap.size w w' := by
  obtain ⟨W1, hW1⟩ : ∃ W1, w.alloc (tmCells t.head a t.args.length c) = W1 := ⟨_, rfl⟩
  have hF1 : Below w.heap.size w W1 := by rw [← hW1]; exact (Below.refl _ w).alloc (Nat.le_refl _) _
  have HF1 := Lib.hid hF1
  have LT := Lib.hid (show Later (fun X => Vc w.heap.size t.head a t.args.length c X) W1 from by rw [← hW1]; exact later_var w _ _ _ _)
  have CC := Lib.hid (fun (W : World) (hW : Below w.heap.size w W) => sgCheck_any g n₀ ga gc W (Nat.le_trans hn hW.size) (hG.below (hW.mono hn)))
  have CK := Lib.hid (fun (W : World) (hW : Below w.heap.size w W) => check_any t hsz n₀ a c W (Nat.le_trans hn hW.size) hwf (hA.below (hW.mono hn)))
  have CF := Lib.hid (fun (W : World) (hW : Below w.heap.size w W) => fits_any g t.size t (Nat.le_refl _) n₀ ga gc a c W (Nat.le_trans hn hW.size) (hG.below (hW.mono hn)) hwf (hA.below (hW.mono hn)))
  have CP := Lib.hid (fun (hall : ∀ s ∈ t.args, fitsT g s = true ∧ bad (T.subs 1 s) = false) (W : World) (hW : Below w.heap.size w W) => predicate_any g (T.sizes t.args) t.args (Nat.le_refl _) hall n₀ ga gc a c W (Nat.le_trans hn hW.size) (hG.below (hW.mono hn)) (hA.below (hW.mono hn)))
  clear hF1 hG hA
  go_enter Try.func18, Try.ntmps18
  go_wp2_with fail
  refine (CC.out _ HF1.out).mono ?_
  rintro e w2 ⟨rfl, hb2⟩
  have hB2 : Below w.heap.size w w2 := HF1.out.trans (hb2.mono HF1.out.size)
  have LT2 := Lib.hid (LT.out.mv hb2)
  have HB2 := Lib.hid hB2
  clear hb2 hB2 LT hW1
  cases hr : rightG g with
  | false =>
    have h1 : errG g = 1 := by unfold errG; rw [hr]; rfl
    have HE := Lib.hid (show errT g t = 1 from by unfold errT; rw [hr]; rfl)
    rw [h1]
    clear h1 hr
    go_wp2
    go_ret
    exact ⟨by rw [HE.out]; rfl, HB2.out⟩
  | true =>
    have h1 : errG g = 0 := by unfold errG; rw [hr]; rfl
    have HR := Lib.hid hr
    rw [h1]
    clear h1 hr
    have hv := LT2.out.now
    obtain ⟨hv0, hv1⟩ := hv
    go_wp2_with fail
    refine (CK.out _ HB2.out).mono ?_
    rintro e w3 ⟨rfl, hb3⟩
    have HB3 := Lib.hid (HB2.out.trans (hb3.mono HB2.out.size))
    have LT3 := Lib.hid (LT2.out.mv hb3)
    clear hb3 LT2 hv0 hv1
    by_cases hc : t.check = 0
    · have HC := Lib.hid hc
      rw [hc]
      have hv := LT3.out.now
      obtain ⟨hv0, hv1⟩ := hv
      clear hc
      go_wp2_with fail
      refine (CF.out _ HB3.out).mono ?_
      rintro e w4 ⟨rfl, hb4⟩
      have HB4 := Lib.hid (HB3.out.trans (hb4.mono HB3.out.size))
      have LT4 := Lib.hid (LT3.out.mv hb4)
      clear hb4 LT3 hv0 hv1
      cases hf : fitsT g t with
      | false =>
        have HE := Lib.hid (show errT g t = 1 from by unfold errT; rw [HR.out, HC.out, hf]; rfl)
        clear hf
        go_wp2
        go_ret
        exact ⟨by rw [HE.out]; rfl, HB4.out⟩
      | true =>
        have hall := fits_args hf (check_ok HC.out).2.2
        have CQ := Lib.hid (CP.out hall w4 HB4.out)
        have HF := Lib.hid hf
        clear hf hall
        have hv := LT4.out.now
        obtain ⟨hv0, hv1⟩ := hv
        go_wp2_with fail
        refine CQ.out.mono ?_
        rintro e w5 ⟨rfl, hb5⟩
        have HB5 := Lib.hid (HB4.out.trans (hb5.mono HB4.out.size))
        clear hb5 LT4 hv0 hv1
        cases hp : predL g t.args with
        | false =>
          have HE := Lib.hid (show errT g t = 0 from by unfold errT; rw [HR.out, HC.out, HF.out, hp]; rfl)
          clear hp
          go_wp2
          go_ret
          exact ⟨by rw [HE.out]; rfl, HB5.out⟩
        | true =>
          have HE := Lib.hid (show errT g t = 10 from by unfold errT; rw [HR.out, HC.out, HF.out, hp]; rfl)
          clear hp
          go_wp2
          go_ret
          exact ⟨by rw [HE.out]; rfl, HB5.out⟩
    · have HE := Lib.hid (show errT g t = t.check from by unfold errT; rw [HR.out]; simp [hc])
      obtain ⟨k, hk⟩ : ∃ k, t.check = k := ⟨_, rfl⟩
      have hk0 : (k != 0) = true := by rw [← hk]; simpa using hc
      rw [hk]
      have HK := Lib.hid hk
      clear hc hk
      go_wp2
      go_ret
      exact ⟨by rw [HE.out, HK.out]; rfl, HB3.out⟩

end Go.Proofs.Ytacbkiknpnokcaa
