/- Contracts of maxim's isIndex, maximal, Maximal. -/
import Derived.Test.YtpncmdlbmnmahaaGreatMx
import Derived.Test.YtpncmdlbmnmahaaGreatQBv
import Derived.Test.YtpncmdlbmnmahaaGreatQBr
import Derived.BigQuiet
import Derived.Deep.QuietTactic
import Derived.Lib.QuietBelow
namespace Go.Proofs.YtpncmdlbmnmahaaGreat
set_option linter.unusedVariables false
set_option linter.unusedSimpArgs false
open Go.RowKit
set_option maxRecDepth 100000 in
theorem isIndex_any (P : List LV) (i : Int) (a : Option Addr) (c : Nat) (w : World) (h1 : P.length ≤ c) (h2 : c ≤ maxLen) :
    Calls Tryz.prog 23 #[.slice a P.length c, .int .i64 i] w fun e w' => e = .returned (.bool (idxB (t3s P) i)) ∧ Below w.heap.size w w' := by
  unfold maxLen at h2
  have HE := Lib.hid (show idxB (t3s P) i = (decide (0 ≤ i) && decide (i < (P.length : Int))) from by simp [idxB])
  go_enter Tryz.func23, Tryz.ntmps23
  by_cases h : (0 : Int) ≤ i
  · by_cases h3 : i < (P.length : Int)
    · have HR := Lib.hid (show idxB (t3s P) i = true from by rw [HE.out]; simp [h, h3])
      go_wp2
      go_ret
      exact ⟨by rw [HR.out]; rfl, Below.refl _ _⟩
    · have HR := Lib.hid (show idxB (t3s P) i = false from by rw [HE.out]; simp [h3])
      have h3' : decide (i < (P.length : Int)) = false := decide_eq_false h3
      clear h3
      go_wp2
      go_ret
      exact ⟨by rw [HR.out]; rfl, Below.refl _ _⟩
  · have HR := Lib.hid (show idxB (t3s P) i = false from by rw [HE.out]; simp [h])
    have h' : decide ((0 : Int) ≤ i) = false := decide_eq_false h
    clear h
    go_wp2
    go_ret
    exact ⟨by rw [HR.out]; rfl, Below.refl _ _⟩
def MxI (g : Sg) (C : List Lt3) (i : Nat) (st : Bool) (w : World) (v : Value) (wr : World) : Prop := ∃ k : Nat, k ≤ C.length ∧ v = .int .i64 k ∧ (∀ j < k, okX g C i st j = true) ∧ Below w.heap.size w wr
theorem okX_snoc {g : Sg} {C : List Lt3} {i k : Nat} {st : Bool} (h : ∀ j < k, okX g C i st j = true) (hk : okX g C i st k = true) : ∀ j < k + 1, okX g C i st j = true := fun j hj => by
  by_cases e : j = k
  · subst e; exact hk
  · exact h j (by omega)
set_option maxRecDepth 100000 in
set_option maxHeartbeats 8000000 in
theorem maximal_any (g : Sg) (P : List LV) (hsz : ∀ x ∈ P, x.sz) (hok : errC g (t3s P) = 0) (i : Nat) (hi : i < P.length) (st : Bool) (n₀ : Nat) (ga : Option Addr) (gc : Nat) (a : Option Addr) (c : Nat) (w : World) (hn : n₀ ≤ w.heap.size) (hG : IsSg n₀ w g ga gc) (hP : IsCl n₀ w P a c) :
    Calls Tryz.prog 24 #[.slice ga g.length gc, .slice a P.length c, .int .i64 i, .bool st] w fun e w' => e = .returned (.bool (topC g (t3s P) i st)) ∧ Below w.heap.size w w' := by
  have hlc : P.length ≤ c ∧ c ≤ maxLen := ⟨hP.1, hP.2.1⟩
  unfold maxLen at hlc
  obtain ⟨hl1, hl2⟩ := hlc
  have HSZ := Lib.hid hsz
  have HOK := Lib.hid (show ∀ x ∈ P, errL g x.l x.r = 0 from fun x hx => (errC_ok hok).2.2 x.t3 (List.mem_map.2 ⟨x, hx, rfl⟩))
  have HP := Lib.hid (hP.mono hn)
  have HG := Lib.hid (hG.mono hn)
  have HL := Lib.hid (show (t3s P).length = P.length from by simp)
  have hi0 : (0 : Int) ≤ (i : Int) := Int.natCast_nonneg _
  have hi1 : (i : Int) < (P.length : Int) := by omega
  clear hP hG hsz hok
  go_enter Tryz.func24, Tryz.ntmps24
  go_wp2
  go_loopw [15] (fun v wr => MxI g (t3s P) i st w v wr) (fun v _ => P.length - (intOf v).toNat)
  case atStart => exact ⟨0, Nat.zero_le _, rfl, fun j h => by omega, Below.refl _ _⟩
  case round =>
    obtain ⟨k, hk, rfl, hno, hB⟩ := hrel
    rw [HL.out] at hk
    have HB := Lib.hid hB
    have hbz := hB.size
    have HNO := Lib.hid hno
    clear hB hno
    by_cases hlt : k < P.length
    · obtain ⟨b, o, x, rfl, hb, hx, ⟨a0, a1, a2, a3, a4⟩, hxl⟩ := (HP.out.below HB.out).elem (i := k) hlt
      obtain ⟨b', o', y, e', hb', hy, ⟨y0, y1, y2, y3, y4⟩, hyl⟩ := (HP.out.below HB.out).elem (i := i) hi
      simp only [Option.some.injEq, Addr.mk.injEq, and_true] at e'
      obtain ⟨rfl, rfl⟩ := e'
      have hk0 : (0 : Int) ≤ (k : Int) := Int.natCast_nonneg _
      have hk1 : (k : Int) < (P.length : Int) := by omega
      have hbw : b < wr.heap.size := by omega
      have HX := Lib.hid (And.intro (t3s_get hx) (t3s_get hy))
      have HE := Lib.hid (lc_stand (g := g) (x := x) (y := y) (HOK.out x (List.mem_of_getElem? hx)) (HOK.out y (List.mem_of_getElem? hy)))
      have hxs := HSZ.out x (List.mem_of_getElem? hx)
      have hys := HSZ.out y (List.mem_of_getElem? hy)
      obtain ⟨W2, hW2⟩ : ∃ W2, wr.alloc x.obj = W2 := ⟨_, rfl⟩
      have hs2 : W2.heap.size = wr.heap.size + 1 := by rw [← hW2]; simp
      have hF2 : Below wr.heap.size wr W2 := by rw [← hW2]; exact (Below.refl _ wr).alloc (Nat.le_refl _) _
      obtain ⟨l0, l1, l2, l3, l4⟩ := (show Later (Lc wr.heap.size x) W2 from by rw [← hW2]; exact later_lc wr x).now
      obtain ⟨n, hn⟩ : ∃ n, standL g x.t3 y.t3 = n := ⟨_, rfl⟩
      have CE := Lib.hid (fun (W : World) (hW : Below W2.heap.size W2 W) => show Calls Tryz.prog 18 #[.slice ga g.length gc, x.v, y.v] W (fun e w' => e = .returned (.tuple #[.int .i64 n, .int .i64 0]) ∧ Below W.heap.size W w') from by
        have hw := hF2.trans (hW.mono hF2.size)
        have h := litCompare_any g x y hxs hys w.heap.size ga gc W (by have := hw.size; omega) (HG.out.below (HB.out.trans (hw.mono hbz))) (hxl.below (hw.mono hbz)) (hyl.below (hw.mono hbz))
        rw [HE.out.1, HE.out.2, hn] at h
        exact h)
      have HN := Lib.hid hn
      have HB2 := Lib.hid (HB.out.trans (hF2.mono hbz))
      have c0 := (hF2.cell (p := ⟨b, o + i * 5, none⟩) hbw).trans y0
      have c1 := (hF2.cell (p := ⟨b, o + i * 5 + 1, none⟩) hbw).trans y1
      have c2 := (hF2.cell (p := ⟨b, o + i * 5 + 2, none⟩) hbw).trans y2
      have c3 := (hF2.cell (p := ⟨b, o + i * 5 + 3, none⟩) hbw).trans y3
      have c4 := (hF2.cell (p := ⟨b, o + i * 5 + 4, none⟩) hbw).trans y4
      have f0 := fun d os => cell_regrown l0 d os
      have f1 := fun d os => cell_regrown l1 d os
      have f2 := fun d os => cell_regrown l2 d os
      have f3 := fun d os => cell_regrown l3 d os
      have f4 := fun d os => cell_regrown l4 d os
      have g0 := fun d os => cell_regrown c0 d os
      have g1 := fun d os => cell_regrown c1 d os
      have g2 := fun d os => cell_regrown c2 d os
      have g3 := fun d os => cell_regrown c3 d os
      have g4 := fun d os => cell_regrown c4 d os
      clear hx hy hxl hyl hn hF2 hxs hys c0 c1 c2 c3 c4 y0 y1 y2 y3 y4
      by_cases hki : k = i
      · subst hki
        clear CE
        go_wp2
        go_roundw
        case rel => exact ⟨k + 1, by rw [HL.out]; omega, by go_num, okX_snoc HNO.out okX_self, HB2.out⟩
        case measure => simp [intOf]; omega
      · have hki' : ((k : Int) == (i : Int)) = false := beq_eq_false_iff_ne.2 (by omega)
        have HKI := Lib.hid hki
        clear hki
        go_wp2
        refine wp_region_wq (by kernel_rfl) (by kernel_rfl) ?_
        repeat (first
          | (refine WQ.skip (by rfl) ?_; simp only [Act.put, List.setIfInBounds_toArray, List.set_cons_succ, List.set_cons_zero])
          | (apply WQ.two (by rfl); (intro w' hw'; obtain ⟨pq, rfl⟩ := hw'; go_simp; first | (with_reducible exact Calls.regrown_of (CE.out _ (below_regrown _ _ _))) | exact rfl); simp only [Act.put, List.setIfInBounds_toArray, List.set_cons_succ, List.set_cons_zero]))
        refine WQ.nil ?_
        intro _ hw'
        obtain ⟨⟨dq, osq⟩, hw''⟩ := hw'
        subst hw''
        have HB3 := Lib.hid (HB2.out.trans ((below_regrown W2 dq osq).mono (by omega)))
        by_cases h1 : n = 1
        · have HF := Lib.hid (topC_false (st := st) (show k < (t3s P).length by rw [HL.out]; exact hlt) (okX_one HKI.out HX.out.1 HX.out.2 (HN.out.trans h1)))
          subst h1
          go_wp2
          go_ret
          exact ⟨by rw [HF.out]; rfl, HB3.out⟩
        · have h1' : (n == 1) = false := by simpa using h1
          cases st with
          | false =>
            have HO := Lib.hid (okX_three (g := g) (st := false) HX.out.1 HX.out.2 (fun e => h1 (HN.out.symm.trans e)) (.inl rfl))
            clear h1
            go_wp2
            go_roundw
            case rel => exact ⟨k + 1, by rw [HL.out]; omega, by go_num, okX_snoc HNO.out HO.out, HB3.out⟩
            case measure => simp [intOf]; omega
          | true =>
            by_cases h0 : n = 0
            · have HF := Lib.hid (topC_false (show k < (t3s P).length by rw [HL.out]; exact hlt) (okX_two HKI.out HX.out.1 HX.out.2 (HN.out.trans h0)))
              subst h0
              clear h1 h1'
              go_wp2
              go_ret
              exact ⟨by rw [HF.out]; rfl, HB3.out⟩
            · have HO := Lib.hid (okX_three (g := g) (st := true) HX.out.1 HX.out.2 (fun e => h1 (HN.out.symm.trans e)) (.inr fun e => h0 (HN.out.symm.trans e)))
              have h0' : (n == 0) = false := by simpa using h0
              clear h1 h0
              go_wp2
              go_roundw
              case rel => exact ⟨k + 1, by rw [HL.out]; omega, by go_num, okX_snoc HNO.out HO.out, HB3.out⟩
              case measure => simp [intOf]; omega
    · obtain rfl : k = P.length := by omega
      have HF := Lib.hid (topC_true (g := g) (C := t3s P) (i := i) (st := st) (fun j hj => HNO.out j (by rw [HL.out] at hj; exact hj)))
      go_wp2
      go_ret
      exact ⟨by rw [HF.out]; rfl, HB.out⟩
def MxPost (g : Sg) (C : List Lt3) (i : Int) (st : Bool) (w : World) (e : Ending) (w' : World) : Prop := e = .returned (.tuple #[.bool (mxR g C i st), .int .i64 (mxE g C i)]) ∧ Below w.heap.size w w'
set_option maxRecDepth 100000 in
set_option maxHeartbeats 4000000 in
theorem xMaximal_any (g : Sg) (P : List LV) (hsz : ∀ x ∈ P, x.sz) (i : Int) (st : Bool) (n₀ : Nat) (ga : Option Addr) (gc : Nat) (a : Option Addr) (c : Nat) (w : World) (hn : n₀ ≤ w.heap.size) (hG : IsSg n₀ w g ga gc) (hP : IsCl n₀ w P a c) :
    Calls Tryz.prog 9 #[.slice ga g.length gc, .slice a P.length c, .int .i64 i, .bool st] w (MxPost g (t3s P) i st w) := by
  have HI := Lib.hid (fun W => isIndex_any P i a c W hP.1 hP.2.1)
  have HSZ := Lib.hid hsz
  have HP := Lib.hid (hP.mono hn)
  have HG := Lib.hid (hG.mono hn)
  clear hP hG hsz
  go_enter Tryz.func9, Tryz.ntmps9
  go_wp2_with fail
  refine (cCheck_any g P HSZ.out w.heap.size ga gc a c w (Nat.le_refl _) HG.out HP.out).mono ?_
  rintro e w2 ⟨rfl, hb⟩
  have HB2 := Lib.hid hb
  clear hb
  by_cases he : errC g (t3s P) = 0
  case neg =>
    have HE := Lib.hid (mx_bad (i := i) (st := st) he)
    obtain ⟨k, hk⟩ : ∃ k, errC g (t3s P) = k := ⟨_, rfl⟩
    rw [hk] at he HE ⊢
    have h2 : (k != 0) = true := by simpa using he
    clear he hk
    go_wp2
    refine bodyPost_ret (v := .tuple #[.bool false, .int .i64 k]) (by simp [results, Tryz.results9, go_sem]) rfl ?_
    exact ⟨by rw [HE.out.1, HE.out.2], HB2.out⟩
  have HE := Lib.hid he
  rw [he]
  clear he
  go_wp2_with fail
  refine (HI.out w2).mono ?_
  rintro e w3 ⟨rfl, hb⟩
  have HB3 := Lib.hid (HB2.out.trans (hb.mono HB2.out.size))
  clear hb
  cases hi : idxB (t3s P) i with
  | false =>
    have HR := Lib.hid (mx_out (st := st) HE.out hi)
    clear hi
    go_wp2
    refine bodyPost_ret (v := .tuple #[.bool false, .int .i64 1]) (by simp [results, Tryz.results9, go_sem]) rfl ?_
    exact ⟨by rw [HR.out.1, HR.out.2], HB3.out⟩
  | true =>
    have HR := Lib.hid (mx_ok (st := st) HE.out hi)
    obtain ⟨j, rfl, hj⟩ : ∃ j : Nat, i = j ∧ j < P.length := by
      simp [idxB] at hi
      exact ⟨i.toNat, by omega, by omega⟩
    clear hi
    have CM := Lib.hid (maximal_any g P HSZ.out HE.out j hj st w3.heap.size ga gc a c w3 (Nat.le_refl _) ((HG.out.below HB3.out).mono HB3.out.size) ((HP.out.below HB3.out).mono HB3.out.size))
    go_wp2_with fail
    refine CM.out.mono ?_
    rintro e w4 ⟨rfl, hb⟩
    have HB4 := Lib.hid (HB3.out.trans (hb.mono HB3.out.size))
    clear hb CM
    rw [Int.toNat_natCast] at HR
    generalize topC g (t3s P) j st = q at HR ⊢
    go_wp2
    refine bodyPost_ret (v := .tuple #[.bool q, .int .i64 0]) (by simp [results, Tryz.results9, go_sem]) rfl ?_
    exact ⟨by rw [HR.out.1, HR.out.2], HB4.out⟩
end Go.Proofs.YtpncmdlbmnmahaaGreat
