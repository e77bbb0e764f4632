/- Contracts of the document's weight, Picked, Select. -/
import Derived.Test.YtpncmdlbmnmahaaGreatMm4
import Derived.Test.YtpncmdlbmnmahaaGreatQBs
import Derived.Test.YtpncmdlbmnmahaaGreatQBr
namespace Go.Proofs.YtpncmdlbmnmahaaGreat
set_option linter.unusedVariables false
set_option linter.unusedSimpArgs false
open Go.RowKit
set_option maxRecDepth 100000 in
set_option maxHeartbeats 4000000 in
theorem rWeight11_any (g : Sg) (x : LV) (hx : x.sz) (he : errL g x.l x.r = 0) (n₀ : Nat) (ga : Option Addr) (gc : Nat) (w : World) (hn : n₀ ≤ w.heap.size) (hG : IsSg n₀ w g ga gc) (hX : IsLv n₀ w x) :
    Calls Tryz.prog 47 #[.slice ga g.length gc, x.v] w fun e w' => e = .returned (.int .i64 (wtB g x.t3)) ∧ Below w.heap.size w w' := by
  obtain ⟨e1, e2, b1, b2, b3, b4⟩ := wtB_facts he
  have HE := Lib.hid (show wtB g x.t3 = wtT g x.l + wtT g x.r from rfl)
  have C1 := Lib.hid (fun (W : World) (hW : Below w.heap.size w W) => (by
    have h := r7Weight_any g x.l hx.1 n₀ ga gc x.pa x.ca W (Nat.le_trans hn hW.size) (hG.below (hW.mono hn)) (hX.below (hW.mono hn)).la
    rw [e1] at h; exact h : Calls Tryz.prog 67 #[.slice ga g.length gc, tm x.l.head x.pa x.l.args.length x.ca] W fun e w' => e = .returned (.tuple #[.int .i64 (wtT g x.l), .int .i64 0]) ∧ Below W.heap.size W w'))
  have C2 := Lib.hid (fun (W : World) (hW : Below w.heap.size w W) => (by
    have h := r7Weight_any g x.r hx.2 n₀ ga gc x.pb x.cb W (Nat.le_trans hn hW.size) (hG.below (hW.mono hn)) (hX.below (hW.mono hn)).ra
    rw [e2] at h; exact h : Calls Tryz.prog 67 #[.slice ga g.length gc, tm x.r.head x.pb x.r.args.length x.cb] W fun e w' => e = .returned (.tuple #[.int .i64 (wtT g x.r), .int .i64 0]) ∧ Below W.heap.size W w'))
  obtain ⟨W1, hW1⟩ : ∃ W1, w.alloc x.obj = W1 := ⟨_, rfl⟩
  have hF1 : Below w.heap.size w W1 := by rw [← hW1]; exact (Below.refl _ w).alloc (Nat.le_refl _) _
  have L := Lib.hid (show Later (Lc w.heap.size x) W1 from by rw [← hW1]; exact later_lc w x)
  have HF1 := Lib.hid hF1
  generalize wtT g x.l = p at HE C1 b1 b2
  generalize wtT g x.r = q at HE C2 b3 b4
  have hs1 : -9223372036854775808 ≤ p + q := by omega
  have hs2 : p + q ≤ 9223372036854775807 := by omega
  clear hG hX hF1 e1 e2 he hx
  obtain ⟨l0, l1, l2, l3, l4⟩ := L.out W1 (Below.refl _ _)
  go_enter Tryz.func47, Tryz.ntmps47
  go_wp2_with fail
  clear l0 l1 l2 l3 l4 hW1
  refine (C1.out W1 HF1.out).mono ?_
  rintro e w2 ⟨rfl, hb⟩
  have HB2 := Lib.hid (HF1.out.trans (hb.mono HF1.out.size))
  obtain ⟨l0, l1, l2, l3, l4⟩ := L.out w2 hb
  clear hb
  go_wp2_with fail
  clear l0 l1 l2 l3 l4
  refine (C2.out w2 HB2.out).mono ?_
  rintro e w3 ⟨rfl, hb⟩
  have HB3 := Lib.hid (HB2.out.trans (hb.mono HB2.out.size))
  clear hb
  go_wp2
  go_ret
  exact ⟨by rw [HE.out]; rfl, HB3.out⟩
/-! ### Picked -/
def pkB (g : Sg) (C : List Lt3) (how : Int) (k : Nat) : Int := if how = 0 then -1 else bestF g (decide (how = 2)) C k
theorem pkB_pick {g : Sg} {C : List Lt3} {how : Int} : pickL g C how = if pkB g C how C.length < 0 then [] else [pkB g C how C.length] := by
  unfold pickL pkB
  by_cases h : how = 0
  · rw [if_pos h, if_pos h, if_pos (by omega)]
  · rw [if_neg h, if_neg h]
theorem pkB_range (g : Sg) (C : List Lt3) (how : Int) (k : Nat) : -1 ≤ pkB g C how k ∧ pkB g C how k < (k : Int) := by
  unfold pkB
  split
  · omega
  · exact bestF_range k
theorem pkB_pos {g : Sg} {C : List Lt3} {how : Int} {k : Nat} (h : (C.getD k z3).neg = false) : pkB g C how (k + 1) = pkB g C how k := by
  unfold pkB
  split
  · rfl
  · rw [bestF, h, if_neg (by decide)]
theorem pkB_zero {g : Sg} {C : List Lt3} {k j : Nat} : pkB g C 0 k = pkB g C 0 j := by
  unfold pkB; rw [if_pos rfl, if_pos rfl]
theorem pkB_first {g : Sg} {C : List Lt3} {how : Int} {k : Nat} (h : (C.getD k z3).neg = true) (h0 : how ≠ 0) (hb : pkB g C how k < 0) : pkB g C how (k + 1) = k := by
  unfold pkB at hb ⊢
  rw [if_neg h0] at hb ⊢
  rw [bestF, h, if_pos rfl, if_pos hb]
theorem pkB_more {g : Sg} {C : List Lt3} {k : Nat} (h : (C.getD k z3).neg = true) (hb : 0 ≤ pkB g C 2 k) : pkB g C 2 (k + 1) = if wtB g (C.getD (pkB g C 2 k).toNat z3) < wtB g (C.getD k z3) then (k : Int) else pkB g C 2 k := by
  unfold pkB at hb ⊢
  rw [if_neg (by decide)] at hb ⊢
  rw [bestF, h, if_pos rfl]
  rw [if_neg (by omega)]
  simp
theorem pkB_other {g : Sg} {C : List Lt3} {how : Int} {k : Nat} (h0 : how ≠ 0) (h2 : how ≠ 2) (hb : 0 ≤ pkB g C how k) : pkB g C how (k + 1) = pkB g C how k := by
  unfold pkB at hb ⊢
  rw [if_neg h0] at hb ⊢
  rw [if_neg h0, bestF]
  split
  · rw [if_neg (by omega)]; simp [h2]
  · rfl
def PkI (g : Sg) (C : List Lt3) (how : Int) (w : World) (bv iv : Value) (wr : World) : Prop := ∃ k : Nat, k ≤ C.length ∧ iv = .int .i64 k ∧ bv = .int .i64 (pkB g C how k) ∧ Below w.heap.size w wr
set_option maxRecDepth 100000 in
set_option maxHeartbeats 8000000 in
theorem rPicked_any (g : Sg) (P : List LV) (hsz : ∀ x ∈ P, x.sz) (hok : errC g (t3s P) = 0) (how : Int) (n₀ : Nat) (ga : Option Addr) (gc : Nat) (a : Option Addr) (c : Nat) (w : World) (hn : n₀ ≤ w.heap.size) (hG : IsSg n₀ w g ga gc) (hP : IsCl n₀ w P a c) :
    Calls Tryz.prog 28 #[.slice ga g.length gc, .slice a P.length c, .int .i64 how] w (SlPost (pickL g (t3s P) how) w) := by
  have hlc : P.length ≤ c ∧ c ≤ maxLen := ⟨hP.1, hP.2.1⟩
  unfold maxLen at hlc
  obtain ⟨hl1, hl2⟩ := hlc
  have HSZ := Lib.hid hsz
  have HOK := Lib.hid (show ∀ x ∈ P, errL g x.l x.r = 0 from fun x hx => (errC_ok hok).2.2 x.t3 (List.mem_map.2 ⟨x, hx, rfl⟩))
  have HP := Lib.hid (hP.mono hn)
  have HG := Lib.hid (hG.mono hn)
  have HL := Lib.hid (show (t3s P).length = P.length from by simp)
  clear hP hG hsz hok
  go_enter Tryz.func28, Tryz.ntmps28
  go_wp2
  go_loopw [7, 8] (fun bv iv wr => PkI g (t3s P) how w bv iv wr) (fun _ iv _ => P.length - (intOf iv).toNat)
  case atStart => exact ⟨0, Nat.zero_le _, rfl, by unfold pkB; split <;> rfl, Below.refl _ _⟩
  case round =>
    obtain ⟨k, hk, rfl, rfl, hB⟩ := hrel
    rw [HL.out] at hk
    have HB := Lib.hid hB
    have hbz := hB.size
    clear hB
    have HRG := Lib.hid (pkB_range g (t3s P) how k)
    by_cases hlt : k < P.length
    · obtain ⟨b, o, x, rfl, hb, hx, ⟨a0, a1, a2, a3, a4⟩, hxl⟩ := (HP.out.below HB.out).elem (i := k) hlt
      have hk0 : (0 : Int) ≤ (k : Int) := Int.natCast_nonneg _
      have hk1 : (k : Int) < (P.length : Int) := by omega
      have HX := Lib.hid (getD_of (t3s_get hx))
      have hxm := List.mem_of_getElem? hx
      obtain ⟨nn, hnn⟩ : ∃ nn, x.n = nn := ⟨_, rfl⟩
      rw [hnn] at a0
      have HNN := Lib.hid (show ((t3s P).getD k z3).neg = nn from by rw [HX.out]; exact hnn)
      clear hnn hx
      cases nn with
      | false =>
        have HE := Lib.hid (pkB_pos (g := g) (how := how) HNN.out)
        clear hxl hxm
        go_wp2
        go_roundw
        case rel => exact ⟨k + 1, by rw [HL.out]; omega, by go_num, by rw [HE.out], HB.out⟩
        case measure => simp [intOf]; omega
      | true =>
      by_cases h0 : how = 0
      · subst h0
        have HE := Lib.hid (pkB_zero (g := g) (C := t3s P) (k := k + 1) (j := k))
        clear hxl hxm
        go_wp2
        go_roundw
        case rel => exact ⟨k + 1, by rw [HL.out]; omega, by go_num, by rw [HE.out], HB.out⟩
        case measure => simp [intOf]; omega
      have h0' : (how == 0) = false := by simpa using h0
      by_cases hbb : pkB g (t3s P) how k < 0
      · have HE := Lib.hid (pkB_first HNN.out h0 hbb)
        clear h0 hxl hxm
        generalize pkB g (t3s P) how k = bb at hbb ⊢
        go_wp2
        refine wp_region_wq (by kernel_rfl) (by kernel_rfl) ?_
        repeat (first
          | (refine WQ.skip (by rfl) ?_; simp only [Act.put, List.setIfInBounds_toArray, List.set_cons_succ, List.set_cons_zero])
          | (apply WQ.two (by rfl); (intro w' hw'; obtain ⟨pq, rfl⟩ := hw'; go_simp; exact rfl); simp only [Act.put, List.setIfInBounds_toArray, List.set_cons_succ, List.set_cons_zero]))
        refine WQ.nil ?_
        intro _ hw'
        obtain ⟨⟨dq, osq⟩, hw''⟩ := hw'
        subst hw''
        go_wp2
        go_roundw
        case rel => exact ⟨k + 1, by rw [HL.out]; omega, by go_num, by rw [HE.out], HB.out.trans ((below_regrown wr dq osq).mono hbz)⟩
        case measure => simp [intOf]; omega
      · have hbb' : decide (pkB g (t3s P) how k < 0) = false := decide_eq_false hbb
        by_cases h2 : how = 2
        · subst h2
          have HE := Lib.hid (pkB_more (g := g) HNN.out (by omega))
          obtain ⟨m, hm⟩ : ∃ m : Nat, pkB g (t3s P) 2 k = m := ⟨(pkB g (t3s P) 2 k).toNat, by omega⟩
          have hmk : m < k := by have := HRG.out.2; omega
          obtain ⟨b', o', y, e', hb', hy, ⟨y0, y1, y2, y3, y4⟩, hyl⟩ := (HP.out.below HB.out).elem (i := m) (by omega)
          simp only [Option.some.injEq, Addr.mk.injEq, and_true] at e'
          obtain ⟨rfl, rfl⟩ := e'
          have hym := List.mem_of_getElem? hy
          rw [hm, Int.toNat_natCast, getD_of (t3s_get hy), HX.out] at HE
          obtain ⟨nx, hnx⟩ : ∃ nx, x.n = nx := ⟨_, rfl⟩
          have ha0 : wr.cell? ⟨b, o + k * 5, none⟩ = some (.bool x.n) := by
            have h := HNN.out
            rw [HX.out] at h
            rw [a0]
            exact congrArg (fun q => some (Value.bool q)) h.symm
          have CX := Lib.hid (fun (W : World) (hW : Below wr.heap.size wr W) => rWeight11_any g x (HSZ.out x hxm) (HOK.out x hxm) w.heap.size ga gc W (Nat.le_trans hbz hW.size) (HG.out.below (HB.out.trans (hW.mono hbz))) (hxl.below (hW.mono hbz)))
          have CY := Lib.hid (fun (W : World) (hW : Below wr.heap.size wr W) => rWeight11_any g y (HSZ.out y hym) (HOK.out y hym) w.heap.size ga gc W (Nat.le_trans hbz hW.size) (HG.out.below (HB.out.trans (hW.mono hbz))) (hyl.below (hW.mono hbz)))
          have hm0 : (0 : Int) ≤ (m : Int) := Int.natCast_nonneg _
          have hm1 : (m : Int) < (P.length : Int) := by omega
          have hm2 : decide ((m : Int) < 0) = false := decide_eq_false (by omega)
          generalize wtB g x.t3 = qx at CX HE
          generalize wtB g y.t3 = qy at CY HE
          rw [hm]
          have f0 := fun d os => cell_regrown ha0 d os
          have f1 := fun d os => cell_regrown a1 d os
          have f2 := fun d os => cell_regrown a2 d os
          have f3 := fun d os => cell_regrown a3 d os
          have f4 := fun d os => cell_regrown a4 d os
          have g0 := fun d os => cell_regrown y0 d os
          have g1 := fun d os => cell_regrown y1 d os
          have g2 := fun d os => cell_regrown y2 d os
          have g3 := fun d os => cell_regrown y3 d os
          have g4 := fun d os => cell_regrown y4 d os
          clear hxl hxm hyl hym hy hm hbb hbb' hnx h0
          by_cases hq : qy < qx
          · rw [if_pos hq] at HE
            go_wp2
            refine wp_region_wq (by kernel_rfl) (by kernel_rfl) ?_
            repeat (first
              | (refine WQ.skip (by rfl) ?_; simp only [Act.put, List.setIfInBounds_toArray, List.set_cons_succ, List.set_cons_zero])
              | (apply WQ.two (by rfl); (intro w' hw'; obtain ⟨pq, rfl⟩ := hw'; go_simp; first | (with_reducible exact Calls.regrown_of (CX.out _ (below_regrown _ _ _))) | (with_reducible exact Calls.regrown_of (CY.out _ (below_regrown _ _ _))) | exact rfl); simp only [Act.put, List.setIfInBounds_toArray, List.set_cons_succ, List.set_cons_zero]))
            refine WQ.nil ?_
            intro _ hw'
            obtain ⟨⟨dq, osq⟩, hw''⟩ := hw'
            subst hw''
            go_wp2
            go_roundw
            case rel => exact ⟨k + 1, by rw [HL.out]; omega, by go_num, by rw [HE.out], HB.out.trans ((below_regrown wr dq osq).mono hbz)⟩
            case measure => simp [intOf]; omega
          · rw [if_neg hq] at HE
            have hq' : decide (qy < qx) = false := decide_eq_false hq
            clear hq
            go_wp2
            refine wp_region_wq (by kernel_rfl) (by kernel_rfl) ?_
            repeat (first
              | (refine WQ.skip (by rfl) ?_; simp only [Act.put, List.setIfInBounds_toArray, List.set_cons_succ, List.set_cons_zero])
              | (apply WQ.two (by rfl); (intro w' hw'; obtain ⟨pq, rfl⟩ := hw'; go_simp; first | (with_reducible exact Calls.regrown_of (CX.out _ (below_regrown _ _ _))) | (with_reducible exact Calls.regrown_of (CY.out _ (below_regrown _ _ _))) | exact rfl); simp only [Act.put, List.setIfInBounds_toArray, List.set_cons_succ, List.set_cons_zero]))
            refine WQ.nil ?_
            intro _ hw'
            obtain ⟨⟨dq, osq⟩, hw''⟩ := hw'
            subst hw''
            go_wp2
            go_roundw
            case rel => exact ⟨k + 1, by rw [HL.out]; omega, by go_num, by rw [HE.out], HB.out.trans ((below_regrown wr dq osq).mono hbz)⟩
            case measure => simp [intOf]; omega
        · have HE := Lib.hid (pkB_other (g := g) (C := t3s P) (k := k) h0 h2 (by omega))
          have h2' : (how == 2) = false := by simpa using h2
          clear h0 h2 hxl hxm hbb
          generalize pkB g (t3s P) how k = bb at hbb' HE ⊢
          go_wp2
          refine wp_region_wq (by kernel_rfl) (by kernel_rfl) ?_
          repeat (first
            | (refine WQ.skip (by rfl) ?_; simp only [Act.put, List.setIfInBounds_toArray, List.set_cons_succ, List.set_cons_zero])
            | (apply WQ.two (by rfl); (intro w' hw'; obtain ⟨pq, rfl⟩ := hw'; go_simp; exact rfl); simp only [Act.put, List.setIfInBounds_toArray, List.set_cons_succ, List.set_cons_zero]))
          refine WQ.nil ?_
          intro _ hw'
          obtain ⟨⟨dq, osq⟩, hw''⟩ := hw'
          subst hw''
          go_wp2
          go_roundw
          case rel => exact ⟨k + 1, by rw [HL.out]; omega, by go_num, by rw [HE.out], HB.out.trans ((below_regrown wr dq osq).mono hbz)⟩
          case measure => simp [intOf]; omega
    · obtain rfl : k = P.length := by omega
      have hpk := pkB_pick (g := g) (C := t3s P) (how := how)
      rw [HL.out] at hpk
      have HPK := Lib.hid hpk
      clear hpk
      by_cases hbb : pkB g (t3s P) how P.length < 0
      · rw [if_pos hbb] at HPK
        generalize pkB g (t3s P) how P.length = bb at hbb ⊢
        go_wp2
        go_ret
        exact ⟨none, 0, by rw [HPK.out]; rfl, by rw [HPK.out]; exact is_nil _ _, HB.out⟩
      · rw [if_neg hbb] at HPK
        have hbb' : decide (pkB g (t3s P) how P.length < 0) = false := decide_eq_false hbb
        clear hbb
        generalize pkB g (t3s P) how P.length = bb at hbb' HPK ⊢
        go_wp2
        go_ret
        exact ⟨some ⟨wr.heap.size, 0, none⟩, 1, by rw [HPK.out]; rfl, by rw [HPK.out]; exact is_one _ _, HB.out.alloc hbz _⟩
set_option maxRecDepth 100000 in
set_option maxHeartbeats 8000000 in
theorem rSelect_any (g : Sg) (P : List LV) (hsz : ∀ x ∈ P, x.sz) (how : Int) (n₀ : Nat) (ga : Option Addr) (gc : Nat) (a : Option Addr) (c : Nat) (w : World) (hn : n₀ ≤ w.heap.size) (hG : IsSg n₀ w g ga gc) (hP : IsCl n₀ w P a c) :
    Calls Tryz.prog 12 #[.slice ga g.length gc, .slice a P.length c, .int .i64 how] w (SePost g (t3s P) how w) := by
  have HSZ := Lib.hid hsz
  have HP := Lib.hid (hP.mono hn)
  have HG := Lib.hid (hG.mono hn)
  clear hP hG hsz
  go_enter Tryz.func12, Tryz.ntmps12
  go_wp2_with fail
  refine (check10_any g P HSZ.out w.heap.size ga gc a c w (Nat.le_refl _) HG.out HP.out).mono ?_
  rintro e w2 ⟨rfl, hb⟩
  have HB2 := Lib.hid hb
  clear hb
  by_cases he : errC g (t3s P) = 0
  case neg =>
    have HE := Lib.hid (se_bad (how := how) he)
    obtain ⟨k, hk⟩ : ∃ k, errC g (t3s P) = k := ⟨_, rfl⟩
    rw [hk] at he HE ⊢
    have h2 : (k != 0) = true := by simpa using he
    clear he hk
    go_wp2
    refine bodyPost_ret (v := .tuple #[.slice none 0 0, .int .i64 k]) (by simp [results, Tryz.results12, go_sem]) rfl ?_
    exact ⟨none, 0, by rw [HE.out.1, HE.out.2]; rfl, by rw [HE.out.2]; exact is_nil _ _, HB2.out⟩
  have HE := Lib.hid he
  rw [he]
  clear he
  by_cases hh : 0 ≤ how ∧ how ≤ 2
  · have HR := Lib.hid (se_ok HE.out hh)
    have h1 : decide (how < 0) = false := decide_eq_false (by omega)
    have h2 : decide (2 < how) = false := decide_eq_false (by omega)
    clear hh
    go_wp2_with fail
    refine (rPicked_any g P HSZ.out HE.out how w.heap.size ga gc a c w2 HB2.out.size (HG.out.below HB2.out) (HP.out.below HB2.out)).mono ?_
    rintro e w5 ⟨p, c', rfl, hI, hb⟩
    have HI := Lib.hid (And.intro hI hb)
    clear hI hb
    rw [← HR.out.2] at HI ⊢
    go_wp2
    refine bodyPost_ret (v := .tuple #[.slice p (seL g (t3s P) how).length c', .int .i64 0]) (by simp [results, Tryz.results12, go_sem]) rfl ?_
    exact ⟨p, c', by rw [HR.out.1], HI.out.1, HB2.out.trans (HI.out.2.mono HB2.out.size)⟩
  · have HR := Lib.hid (se_out HE.out hh)
    have hh' : how < 0 ∨ (¬ how < 0 ∧ 2 < how) := by omega
    clear hh
    rcases hh' with h | ⟨h0, h⟩
    · go_wp2
      refine bodyPost_ret (v := .tuple #[.slice none 0 0, .int .i64 1]) (by simp [results, Tryz.results12, go_sem]) rfl ?_
      exact ⟨none, 0, by rw [HR.out.1, HR.out.2]; rfl, by rw [HR.out.2]; exact is_nil _ _, HB2.out⟩
    · have h0' : decide (how < 0) = false := decide_eq_false h0
      clear h0
      go_wp2
      refine bodyPost_ret (v := .tuple #[.slice none 0 0, .int .i64 1]) (by simp [results, Tryz.results12, go_sem]) rfl ?_
      exact ⟨none, 0, by rw [HR.out.1, HR.out.2]; rfl, by rw [HR.out.2]; exact is_nil _ _, HB2.out⟩
end Go.Proofs.YtpncmdlbmnmahaaGreat
