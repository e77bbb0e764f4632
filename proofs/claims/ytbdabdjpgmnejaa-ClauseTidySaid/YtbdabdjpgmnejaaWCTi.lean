/- The walk of ClauseTidy. -/
import Derived.Test.YtbdabdjpgmnejaaQBi
import Derived.Test.YtbdabdjpgmnejaaQBn
import Derived.Test.YtbdabdjpgmnejaaQBj
import Derived.BigQuiet
import Derived.Deep.QuietTactic
import Derived.Lib.QuietBelow
namespace Go.Proofs.Ytbdabdjpgmnejaa
set_option linter.unusedVariables false
set_option linter.unusedSimpArgs false
open Go.RowKit
theorem sameLB_swp (a b : Lt3) : sameLB a b = sameLB b a := by
  rw [sameLB_rep, sameLB_rep, Bool.eq_iff_iff, beq_iff_eq, beq_iff_eq]; exact eq_comm
theorem tidy_le (c : List Lt3) (k : Nat) : (tidy (c.take k)).length ≤ (tidy c).length := by
  obtain ⟨r, h⟩ := tidy_pre c k
  rw [h, List.length_append]; omega
theorem tidy_get {c : List Lt3} {k j : Nat} (h : j < (tidy (c.take k)).length) : (tidy c)[j]? = (tidy (c.take k))[j]? := by
  obtain ⟨r, e⟩ := tidy_pre c k
  rw [e, List.getElem?_append_left h]
def CtI (A : List LV) (w1 : World) (at_ i : Value) (wr : World) : Prop := ∃ k : Nat, k ≤ A.length ∧ i = .int .i64 k ∧ at_ = .int .i64 ((tidy ((t3s A).take k)).length : Nat) ∧ Below w1.heap.size w1 wr
def CtJ (x : Lt3) (D : List Lt3) (w1 : World) (gv jv : Value) (wr : World) : Prop := ∃ j : Nat, j ≤ D.length ∧ jv = .int .i64 j ∧ gv = .bool (voidL x || (D.take j).any (fun y => sameLB y x)) ∧ Below w1.heap.size w1 wr
def CtN (n : Nat) (w1 : World) (i : Value) (wr : World) : Prop := ∃ k : Nat, k ≤ n ∧ i = .int .i64 k ∧ Below w1.heap.size w1 wr
theorem anyS_snoc {D : List Lt3} {j : Nat} {y x : Lt3} (h : D[j]? = some y) : (D.take (j + 1)).any (fun y => sameLB y x) = ((D.take j).any (fun y => sameLB y x) || sameLB y x) := by
  rw [List.take_add_one, h]; simp
set_option maxRecDepth 100000 in
set_option maxHeartbeats 8000000 in
theorem clauseTidy_walk (A : List LV) (pa : Option Addr) (ca : Nat) (w : World) (hA : IsCl w.heap.size w A pa ca) :
    Calls Try.prog 3 #[.slice pa A.length ca] w fun e w' => e = .returned (.bool true) ∧ Below w.heap.size w w' := by
  have hla := hA.1
  have hla2 := hA.2.1
  unfold maxLen at hla2
  have HA := Lib.hid hA
  clear hA
  go_enter Try.func3, Try.ntmps3
  go_wp2_with fail
  refine (few10_any A w.heap.size pa ca w (Nat.le_refl _) HA.out).mono ?_
  rintro e w2 ⟨b, rfl, hf, hb⟩
  have HB2 := Lib.hid hb
  clear hb
  cases b with
  | false =>
    clear hf
    go_wp2
    go_ret
    exact ⟨rfl, HB2.out⟩
  | true =>
  have hfa : FewC A := hf rfl
  have HFA := Lib.hid hfa
  have HSZ := Lib.hid hfa.sz
  have hl1 := hfa.1
  clear hf hfa
  go_wp2_with fail
  refine (tidy_any A (by omega) HSZ.out w.heap.size pa ca w2 HB2.out.size (HA.out.below HB2.out)).mono ?_
  rintro e w3 ⟨O, po, co, hO, rfl, hcO, hb⟩
  have HB3 := Lib.hid (HB2.out.trans (hb.mono HB2.out.size))
  have hoc := hcO.1
  have hoc2 := hcO.2.1
  unfold maxLen at hoc2
  have HO := Lib.hid hO
  have HOC := Lib.hid (show ∀ W, Below w3.heap.size w3 W → IsCl W.heap.size W O po co from fun W hW => (hcO.below hW).mono hW.size)
  have HAC := Lib.hid (show ∀ W, Below w3.heap.size w3 W → IsCl W.heap.size W A pa ca from fun W hW => (HA.out.below (HB3.out.trans (hW.mono HB3.out.size))).mono (by have := HB3.out.size; have := hW.size; omega))
  have HOS := Lib.hid (show ∀ y ∈ O, y.sz from fun y hy => by
    have h1 : y.t3 ∈ tidy (t3s A) := by rw [← hO]; exact List.mem_map.2 ⟨y, hy, rfl⟩
    obtain ⟨x, hx, e⟩ := List.mem_map.1 (tidy_sub h1)
    have h2 := HSZ.out x hx
    have e1 : x.l = y.l := congrArg Lt3.l e
    have e2 : x.r = y.r := congrArg Lt3.r e
    exact ⟨by rw [← e1]; exact h2.1, by rw [← e2]; exact h2.2⟩)
  have hol : O.length = (tidy (t3s A)).length := by rw [← hO]; simp
  have HOL := Lib.hid hol
  have hol40 : O.length ≤ 40 := by
    have h := tidy_len (t3s A) (t3s A).length
    rw [List.take_length] at h
    simp at h; omega
  clear hb hO hcO hol
  go_wp2
  go_loopw [4, 5] (fun at_ i wr => CtI A w3 at_ i wr) (fun _ i _ => A.length - (intOf i).toNat)
  case atStart => exact ⟨0, Nat.zero_le _, rfl, rfl, Below.refl _ _⟩
  case round =>
    obtain ⟨k, hk, rfl, rfl, hB⟩ := hrel
    have HB := Lib.hid hB
    have hbz := hB.size
    clear hB
    have hmle := tidy_le (t3s A) k
    rw [← HOL.out] at hmle
    by_cases hlt : k < A.length
    · obtain ⟨b, o, x, rfl, hb, hx, ⟨a0, a1, a2, a3, a4⟩, hxl⟩ := (HAC.out wr HB.out).elem (i := k) hlt
      have hxs := HSZ.out x (List.mem_of_getElem? hx)
      have hk0 : (0 : Int) ≤ (k : Int) := Int.natCast_nonneg _
      have hk1 : (k : Int) < (A.length : Int) := by omega
      have HXA := Lib.hid (show ∀ W, Below wr.heap.size wr W → At5 W b (o + k * 5) x ∧ IsLv W.heap.size W x from fun W hW => ⟨At5.keep ⟨a0, a1, a2, a3, a4⟩ (fun i => hW.cell (p := ⟨b, i, none⟩) hb), (hxl.below hW).mono hW.size⟩)
      have HX := Lib.hid (t3s_get hx)
      clear hx hxl a0 a1 a2 a3 a4
      obtain ⟨D, hD⟩ : ∃ D, tidy ((t3s A).take k) = D := ⟨_, rfl⟩
      have HD := Lib.hid hD
      rw [hD] at hmle
      rw [hD]
      have hm0 : (0 : Int) ≤ (D.length : Int) := Int.natCast_nonneg _
      have hdl : D.length ≤ 40 := by omega
      clear hD
      obtain ⟨dr, hdr⟩ : ∃ dr, dropL D x.t3 = dr := ⟨_, rfl⟩
      cases dr with
      | false =>
        have hkp := tidy_kept HX.out (by rw [HD.out]; exact hdr)
        rw [HD.out] at hkp
        obtain ⟨hk2, hk3⟩ := hkp
        have hml : D.length < O.length := by
          rw [HOL.out]
          exact (List.getElem?_eq_some_iff.1 hk2).1
        obtain ⟨b', o', y, rfl, hb', hy, ⟨y0, y1, y2, y3, y4⟩, hyl⟩ := (HOC.out wr HB.out).elem (i := D.length) hml
        have hyx : y.t3 = x.t3 := by
          have h1 := t3s_get hy
          rw [HO.out, hk2] at h1
          exact (Option.some.inj h1).symm
        have hys := HOS.out y (List.mem_of_getElem? hy)
        have CE := Lib.hid (fun (W : World) (hW : Below wr.heap.size wr W) => show Calls Try.prog 6 #[y.v, x.v] W (fun e w' => e = .returned (.bool true) ∧ Below W.heap.size W w') from by
          have h := exactB_any y x hys hxs W.heap.size W (Nat.le_refl _) ((hyl.below hW).mono hW.size) (HXA.out W hW).2
          rw [show ((y.n == x.n) && sameB y.l x.l && sameB y.r x.r) = true from exB9_iff.2 hyx] at h
          exact h)
        have HK3 := Lib.hid hk3
        have hml' : (D.length : Int) < (O.length : Int) := by omega
        obtain ⟨a0, a1, a2, a3, a4⟩ := (HXA.out wr (Below.refl _ _)).1
        have f0 := fun d os => cell_regrown a0 d os
        have f1 := fun d os => cell_regrown a1 d os
        have f2 := fun d os => cell_regrown a2 d os
        have f3 := fun d os => cell_regrown a3 d os
        have f4 := fun d os => cell_regrown a4 d os
        have g0 := fun d os => cell_regrown y0 d os
        have g1 := fun d os => cell_regrown y1 d os
        have g2 := fun d os => cell_regrown y2 d os
        have g3 := fun d os => cell_regrown y3 d os
        have g4 := fun d os => cell_regrown y4 d os
        clear hk2 hk3 hy hyx hyl hdr
        go_wp2
        refine wp_region_wq (by kernel_rfl) (by kernel_rfl) ?_
        repeat (first
          | (refine WQ.skip (by rfl) ?_; simp only [Act.put, List.setIfInBounds_toArray, List.set_cons_succ, List.set_cons_zero])
          | (apply WQ.two (by rfl); (intro w' hw'; obtain ⟨pq, rfl⟩ := hw'; go_simp; first | (with_reducible exact Calls.regrown_of (CE.out _ (below_regrown _ _ _))) | exact rfl); simp only [Act.put, List.setIfInBounds_toArray, List.set_cons_succ, List.set_cons_zero]))
        refine WQ.nil ?_
        intro _ hw'
        obtain ⟨⟨dq, osq⟩, hw''⟩ := hw'
        subst hw''
        go_wp2
        go_roundw
        case rel => exact ⟨k + 1, by omega, by go_num, by rw [HK3.out]; simp, HB.out.trans ((below_regrown wr dq osq).mono hbz)⟩
        case measure => simp [intOf]; omega
      | true =>
        have hgn := tidy_gone HX.out (by rw [HD.out]; exact hdr)
        rw [HD.out] at hgn
        have HGN := Lib.hid hgn
        have HDR := Lib.hid (show (voidL x.t3 || D.any (fun y => sameLB y x.t3)) = true from hdr)
        clear hgn hdr
        go_wp2
        go_cut [35] from 21 to 35 (fun v35 wx => v35 = .bool false ∧ Below wr.heap.size wr wx)
        case first =>
          by_cases hml : D.length < O.length
          · obtain ⟨b', o', y, e', hb', hy, ⟨y0, y1, y2, y3, y4⟩, hyl⟩ := (HOC.out wr HB.out).elem (i := D.length) hml
            subst e'
            have hyx : y.t3 ≠ x.t3 := fun e => HGN.out.1 (by
              have h1 := t3s_get hy
              rw [HO.out] at h1
              rw [h1, e])
            have hys := HOS.out y (List.mem_of_getElem? hy)
            have CE := Lib.hid (fun (W : World) (hW : Below wr.heap.size wr W) => show Calls Try.prog 6 #[y.v, x.v] W (fun e w' => e = .returned (.bool false) ∧ Below W.heap.size W w') from by
              have h := exactB_any y x hys hxs W.heap.size W (Nat.le_refl _) ((hyl.below hW).mono hW.size) (HXA.out W hW).2
              rw [show ((y.n == x.n) && sameB y.l x.l && sameB y.r x.r) = false from by
                cases hq : exB9 y.t3 x.t3 with
                | true => exact absurd (exB9_iff.1 hq) hyx
                | false => exact hq] at h
              exact h)
            have hml' : (D.length : Int) < (O.length : Int) := by omega
            obtain ⟨a0, a1, a2, a3, a4⟩ := (HXA.out wr (Below.refl _ _)).1
            have f0 := fun d os => cell_regrown a0 d os
            have f1 := fun d os => cell_regrown a1 d os
            have f2 := fun d os => cell_regrown a2 d os
            have f3 := fun d os => cell_regrown a3 d os
            have f4 := fun d os => cell_regrown a4 d os
            have g0 := fun d os => cell_regrown y0 d os
            have g1 := fun d os => cell_regrown y1 d os
            have g2 := fun d os => cell_regrown y2 d os
            have g3 := fun d os => cell_regrown y3 d os
            have g4 := fun d os => cell_regrown y4 d os
            clear hy hyx hyl
            refine wp_region_wq (by kernel_rfl) (by kernel_rfl) ?_
            repeat (first
              | (refine WQ.skip (by rfl) ?_; simp only [Act.put, List.setIfInBounds_toArray, List.set_cons_succ, List.set_cons_zero])
              | (apply WQ.two (by rfl); (intro w' hw'; obtain ⟨pq, rfl⟩ := hw'; go_simp; first | (with_reducible exact Calls.regrown_of (CE.out _ (below_regrown _ _ _))) | exact rfl); simp only [Act.put, List.setIfInBounds_toArray, List.set_cons_succ, List.set_cons_zero]))
            refine WQ.nil ?_
            intro _ hw'
            obtain ⟨⟨dq, osq⟩, hw''⟩ := hw'
            subst hw''
            go_wp2_with fail
            go_meet
            exact ⟨rfl, below_regrown wr dq osq⟩
          · have hml' : decide (D.length < O.length) = false := decide_eq_false (by omega)
            clear hml
            refine wp_region_wq (by kernel_rfl) (by kernel_rfl) ?_
            repeat (first
              | (refine WQ.skip (by rfl) ?_; simp only [Act.put, List.setIfInBounds_toArray, List.set_cons_succ, List.set_cons_zero])
              | (apply WQ.two (by rfl); (intro w' hw'; obtain ⟨pq, rfl⟩ := hw'; go_simp; exact rfl); simp only [Act.put, List.setIfInBounds_toArray, List.set_cons_succ, List.set_cons_zero]))
            refine WQ.nil ?_
            intro _ hw'
            obtain ⟨⟨dq, osq⟩, hw''⟩ := hw'
            subst hw''
            go_wp2_with fail
            go_meet
            exact ⟨rfl, below_regrown wr dq osq⟩
        case rest =>
          obtain ⟨rfl, hBc⟩ := hcut
          have HBC := Lib.hid hBc
          have HB5 := Lib.hid (HB.out.trans (hBc.mono hbz))
          clear hBc
          obtain ⟨w5, rfl⟩ : ∃ w5, w5 = wc := ⟨_, rfl⟩
          go_upto_region 10 with fail
          go_cut [6] from 38 to 49 (fun v6 wx => v6 = .bool (voidL x.t3) ∧ Below w5.heap.size w5 wx)
          case first =>
            have HV := Lib.hid (show voidL x.t3 = (x.n && sameB x.l x.r) from rfl)
            obtain ⟨⟨a0, a1, a2, a3, a4⟩, hxl5⟩ := HXA.out w5 HBC.out
            have CT := Lib.hid (litTrivial_any x hxs w5.heap.size w5 (Nat.le_refl _) hxl5)
            clear hxl5 HX HXA HGN HDR hxs
            obtain ⟨xn, xl, xr, xpa, xca, xpb, xcb⟩ := x
            cases xn with
            | false =>
              go_wp2_with fail
              go_meet
              exact ⟨by rw [HV.out]; rfl, Below.refl _ _⟩
            | true =>
              go_wp2_with fail
              refine CT.out.mono ?_
              rintro e w6 ⟨rfl, hb⟩
              have HB6 := Lib.hid hb
              clear hb CT a0 a1 a2 a3 a4
              simp only at HV ⊢
              obtain ⟨q, hq⟩ : ∃ q, sameB xl xr = q := ⟨_, rfl⟩
              have HQ := Lib.hid hq
              rw [hq]
              clear hq
              cases q
              all_goals
                go_wp2_with fail
                go_meet
                exact ⟨by rw [HV.out, HQ.out]; rfl, HB6.out⟩
          case rest =>
            obtain ⟨rfl, hBc⟩ := hcut
            have HB6 := Lib.hid (HB5.out.trans (hBc.mono HB5.out.size))
            have HW6 := Lib.hid (HBC.out.trans (hBc.mono HBC.out.size))
            clear hBc
            obtain ⟨w6, rfl⟩ : ∃ w6, w6 = wc := ⟨_, rfl⟩
            go_wp2
            go_loopw [6, 7] (fun gv jv wx => CtJ x.t3 D w6 gv jv wx) (fun _ j _ => D.length - (intOf j).toNat)
            case atStart => exact ⟨0, Nat.zero_le _, rfl, by simp, Below.refl _ _⟩
            case round =>
              obtain ⟨j, hj, rfl, rfl, hB7⟩ := hrel
              have HB7 := Lib.hid hB7
              have hbz7 := hB7.size
              clear hB7
              by_cases hjl : j < D.length
              · have hj0 : (0 : Int) ≤ (j : Int) := Int.natCast_nonneg _
                have hj1 : (j : Int) < (D.length : Int) := by omega
                have hj2 : (j : Int) < (O.length : Int) := by omega
                have HW7 := Lib.hid (HW6.out.trans (HB7.out.mono HW6.out.size))
                obtain ⟨b', o', y, e', hb', hy, ⟨y0, y1, y2, y3, y4⟩, hyl⟩ := (HOC.out _ (HB6.out.trans (HB7.out.mono HB6.out.size))).elem (i := j) (by omega)
                subst e'
                obtain ⟨⟨a0, a1, a2, a3, a4⟩, _⟩ := HXA.out _ HW7.out
                have hys := HOS.out y (List.mem_of_getElem? hy)
                have hDj : D[j]? = some y.t3 := by
                  have h1 := t3s_get hy
                  rw [HO.out, tidy_get (k := k) (by rw [HD.out]; exact hjl), HD.out] at h1
                  exact h1
                have HST := Lib.hid (anyS_snoc (x := x.t3) hDj)
                obtain ⟨wq, hwq⟩ : ∃ wq, wq = wr := ⟨_, rfl⟩
                have CE := Lib.hid (fun (W : World) (hW : Below wr.heap.size wr W) => show Calls Try.prog 8 #[y.v, x.v] W (fun e w' => e = .returned (.bool (sameLB y.t3 x.t3)) ∧ Below W.heap.size W w') from
                  litSame_any y x hys W.heap.size W (Nat.le_refl _) ((hyl.below hW).mono hW.size) (HXA.out W (HW7.out.trans (hW.mono HW7.out.size))).2)
                clear hwq wq
                have f0 := fun d os => cell_regrown a0 d os
                have f1 := fun d os => cell_regrown a1 d os
                have f2 := fun d os => cell_regrown a2 d os
                have f3 := fun d os => cell_regrown a3 d os
                have f4 := fun d os => cell_regrown a4 d os
                have g0 := fun d os => cell_regrown y0 d os
                have g1 := fun d os => cell_regrown y1 d os
                have g2 := fun d os => cell_regrown y2 d os
                have g3 := fun d os => cell_regrown y3 d os
                have g4 := fun d os => cell_regrown y4 d os
                obtain ⟨q, hq⟩ : ∃ q, (voidL x.t3 || (D.take j).any (fun y => sameLB y x.t3)) = q := ⟨_, rfl⟩
                have HQ := Lib.hid hq
                rw [hq]
                clear hq hy hyl hDj hys
                generalize sameLB y.t3 x.t3 = q2 at CE HST
                cases q with
                | true =>
                  have HR := Lib.hid (show (voidL x.t3 || (D.take (j + 1)).any (fun y => sameLB y x.t3)) = true from by rw [HST.out, ← Bool.or_assoc, HQ.out]; rfl)
                  clear CE
                  go_wp2
                  refine wp_region_wq (by kernel_rfl) (by kernel_rfl) ?_
                  repeat (first
                    | (refine WQ.skip (by rfl) ?_; simp only [Act.put, List.setIfInBounds_toArray, List.set_cons_succ, List.set_cons_zero])
                    | (apply WQ.two (by rfl); (intro w' hw'; obtain ⟨pq, rfl⟩ := hw'; go_simp; exact rfl); simp only [Act.put, List.setIfInBounds_toArray, List.set_cons_succ, List.set_cons_zero]))
                  refine WQ.nil ?_
                  intro _ hw'
                  obtain ⟨⟨dq, osq⟩, hw''⟩ := hw'
                  subst hw''
                  go_wp2
                  go_roundw
                  case rel => exact ⟨j + 1, by omega, by go_num, by rw [HR.out], HB7.out.trans ((below_regrown _ dq osq).mono hbz7)⟩
                  case measure => simp [intOf]; omega
                | false =>
                  have HR := Lib.hid (show (voidL x.t3 || (D.take (j + 1)).any (fun y => sameLB y x.t3)) = q2 from by rw [HST.out, ← Bool.or_assoc, HQ.out]; rfl)
                  go_wp2
                  refine wp_region_wq (by kernel_rfl) (by kernel_rfl) ?_
                  repeat (first
                    | (refine WQ.skip (by rfl) ?_; simp only [Act.put, List.setIfInBounds_toArray, List.set_cons_succ, List.set_cons_zero])
                    | (apply WQ.two (by rfl); (intro w' hw'; obtain ⟨pq, rfl⟩ := hw'; go_simp; first | (with_reducible exact Calls.regrown_of (CE.out _ (below_regrown _ _ _))) | exact rfl); simp only [Act.put, List.setIfInBounds_toArray, List.set_cons_succ, List.set_cons_zero]))
                  refine WQ.nil ?_
                  intro _ hw'
                  obtain ⟨⟨dq, osq⟩, hw''⟩ := hw'
                  subst hw''
                  go_wp2
                  go_roundw
                  case rel => exact ⟨j + 1, by omega, by go_num, by rw [HR.out], HB7.out.trans ((below_regrown _ dq osq).mono hbz7)⟩
                  case measure => simp [intOf]; omega
              · obtain rfl : j = D.length := by omega
                have HW8 := Lib.hid (HB6.out.trans (HB7.out.mono HB6.out.size))
                rw [List.take_length, HDR.out]
                go_wp2
                go_roundw
                case rel => exact ⟨k + 1, by omega, by go_num, by rw [HGN.out.2], HW8.out⟩
                case measure => simp [intOf]; omega
    · obtain rfl : k = A.length := by omega
      have HDL := Lib.hid (show (tidy ((t3s A).take A.length)).length = O.length from by
        rw [HOL.out, List.take_of_length_le (by simp)])
      rw [HDL.out]
      obtain ⟨w9, rfl⟩ : ∃ w9, w9 = wr := ⟨_, rfl⟩
      clear hmle
      go_wp2
      go_loopw [8] (fun i wx => CtN O.length w9 i wx) (fun i _ => O.length - (intOf i).toNat)
      case atStart => exact ⟨0, Nat.zero_le _, rfl, Below.refl _ _⟩
      case round =>
        obtain ⟨i, hi, rfl, hBi⟩ := hrel
        have HBI := Lib.hid hBi
        have hbzi := hBi.size
        clear hBi
        by_cases hil : i < O.length
        · obtain ⟨w10, rfl⟩ : ∃ w10, w10 = wr := ⟨_, rfl⟩
          have hi0 : (0 : Int) ≤ (i : Int) := Int.natCast_nonneg _
          have hi1 : (i : Int) < (O.length : Int) := by omega
          go_wp2
          go_loopw [9] (fun j wx => CtN i w10 j wx) (fun j _ => i - (intOf j).toNat)
          case atStart => exact ⟨0, Nat.zero_le _, rfl, Below.refl _ _⟩
          case round =>
            obtain ⟨j, hj, rfl, hBj⟩ := hrel
            have HBJ := Lib.hid hBj
            have hbzj := hBj.size
            have HW := Lib.hid (HB.out.trans ((HBI.out.trans (hBj.mono hbzi)).mono hbz))
            clear hBj
            by_cases hjl : j < i
            · have hj0 : (0 : Int) ≤ (j : Int) := Int.natCast_nonneg _
              have hj1 : (j : Int) < (i : Int) := by omega
              have hj2 : (j : Int) < (O.length : Int) := by omega
              obtain ⟨b', o', y, e', hb', hy, ⟨y0, y1, y2, y3, y4⟩, hyl⟩ := (HOC.out _ HW.out).elem (i := i) hil
              obtain ⟨b2, o2, z, e2, hb2', hz, ⟨a0, a1, a2, a3, a4⟩, hzl⟩ := (HOC.out _ HW.out).elem (i := j) (by omega)
              subst e'
              simp only [Option.some.injEq, Addr.mk.injEq, and_true] at e2
              obtain ⟨rfl, rfl⟩ := e2
              have hys := HOS.out y (List.mem_of_getElem? hy)
              have hne : sameLB y.t3 z.t3 = false := by
                have h1 := t3s_get hy
                have h2 := t3s_get hz
                rw [HO.out] at h1 h2
                rw [sameLB_swp]
                exact (tidy_ok (t3s A)).dif j i _ _ hjl h2 h1
              have CE := Lib.hid (fun (W : World) (hW : Below wr.heap.size wr W) => show Calls Try.prog 8 #[y.v, z.v] W (fun e w' => e = .returned (.bool false) ∧ Below W.heap.size W w') from by
                have h := litSame_any y z hys W.heap.size W (Nat.le_refl _) ((hyl.below hW).mono hW.size) ((hzl.below hW).mono hW.size)
                rw [show samL y.n y.l y.r z.n z.l z.r = false from hne] at h
                exact h)
              have f0 := fun d os => cell_regrown a0 d os
              have f1 := fun d os => cell_regrown a1 d os
              have f2 := fun d os => cell_regrown a2 d os
              have f3 := fun d os => cell_regrown a3 d os
              have f4 := fun d os => cell_regrown a4 d os
              have g0 := fun d os => cell_regrown y0 d os
              have g1 := fun d os => cell_regrown y1 d os
              have g2 := fun d os => cell_regrown y2 d os
              have g3 := fun d os => cell_regrown y3 d os
              have g4 := fun d os => cell_regrown y4 d os
              clear hy hz hyl hzl hne
              go_wp2
              refine wp_region_wq (by kernel_rfl) (by kernel_rfl) ?_
              repeat (first
                | (refine WQ.skip (by rfl) ?_; simp only [Act.put, List.setIfInBounds_toArray, List.set_cons_succ, List.set_cons_zero])
                | (apply WQ.two (by rfl); (intro w' hw'; obtain ⟨pq, rfl⟩ := hw'; go_simp; first | (with_reducible exact Calls.regrown_of (CE.out _ (below_regrown _ _ _))) | exact rfl); simp only [Act.put, List.setIfInBounds_toArray, List.set_cons_succ, List.set_cons_zero]))
              refine WQ.nil ?_
              intro _ hw'
              obtain ⟨⟨dq, osq⟩, hw''⟩ := hw'
              subst hw''
              go_wp2
              go_roundw
              case rel => exact ⟨j + 1, by omega, by go_num, HBJ.out.trans ((below_regrown _ dq osq).mono hbzj)⟩
              case measure => simp [intOf]; omega
            · obtain rfl : j = i := by omega
              have HR := Lib.hid (HBI.out.trans (HBJ.out.mono hbzi))
              go_wp2
              go_roundw
              case rel => exact ⟨j + 1, by omega, by go_num, HR.out⟩
              case measure => simp [intOf]; omega
        · obtain rfl : i = O.length := by omega
          have HW := Lib.hid (HB.out.trans (HBI.out.mono hbz))
          go_wp2_with fail
          refine (awake10_any wr).mono ?_
          rintro e w11 ⟨rfl, hb⟩
          have HW11 := Lib.hid (HW.out.trans (hb.mono HW.out.size))
          clear hb
          go_wp2_with fail
          refine (tidy_any O (by omega) HOS.out w11.heap.size po co w11 (Nat.le_refl _) (HOC.out w11 HW11.out)).mono ?_
          rintro e w12 ⟨Q, pq, cq, hQ, rfl, hcQ, hb⟩
          have HW12 := Lib.hid (HW11.out.trans (hb.mono HW11.out.size))
          have HE := Lib.hid (show t3s Q = t3s O from by rw [hQ, HO.out, tidy_twice])
          have HQS := Lib.hid (show ∀ y ∈ Q, y.sz from fun y hy => by
            have h1 : y.t3 ∈ t3s O := by rw [← HE.out]; exact List.mem_map.2 ⟨y, hy, rfl⟩
            obtain ⟨x, hx, e⟩ := List.mem_map.1 h1
            have h2 := HOS.out x hx
            have e1 : x.l = y.l := congrArg Lt3.l e
            have e2 : x.r = y.r := congrArg Lt3.r e
            exact ⟨by rw [← e1]; exact h2.1, by rw [← e2]; exact h2.2⟩)
          have CX := Lib.hid (exact10_any Q O HE.out HQS.out w12.heap.size pq cq po co w12 (Nat.le_refl _) hcQ (HOC.out w12 HW12.out))
          clear hb hQ hcQ
          go_wp2_with fail
          refine CX.out.mono ?_
          rintro e w13 ⟨rfl, hb⟩
          have HR := Lib.hid (HB3.out.trans ((HW12.out.trans (hb.mono HW12.out.size)).mono HB3.out.size))
          clear hb CX
          go_wp2
          go_ret
          exact ⟨rfl, HR.out⟩
end Go.Proofs.Ytbdabdjpgmnejaa
