/- Contracts of kbo's compare, firstError and Compare. -/
import Derived.Test.YtleohdddaadbeaaGreatQBj
namespace Go.Proofs.YtleohdddaadbeaaGreat
set_option linter.unusedVariables false
set_option linter.unusedSimpArgs false
open Go.RowKit

set_option maxRecDepth 100000 in
set_option maxHeartbeats 4000000 in
theorem kcmp_any (g : Sg) (hr : rightG g = true) (a b : T) (hfa : fitsT g a = true) (hba : bad (T.subs 1 a) = false) (hfb : fitsT g b = true) (hbb : bad (T.subs 1 b) = false) (hlen : a.size + b.size ≤ 400000)
    (n₀ : Nat) (ga : Option Addr) (gc : Nat) (pa : Option Addr) (ca : Nat) (pb : Option Addr) (cb : Nat) (w : World) (hn : n₀ ≤ w.heap.size) (hG : IsSg n₀ w g ga gc) (hwa : (Lit.int .i64 a.head).wf = true) (hwb : (Lit.int .i64 b.head).wf = true) (hA : IsArgs n₀ w a.args pa ca) (hB : IsArgs n₀ w b.args pb cb) :
    Calls Tryz.prog 40 #[.slice ga g.length gc, tm a.head pa a.args.length ca, tm b.head pb b.args.length cb] w fun e w' => e = .returned (.int .i64 (stand g a b)) ∧ Below w.heap.size w w' := by
  have hmm := @run_makeMap Tryz.prog
  obtain ⟨W1, hW1⟩ : ∃ W1, w.alloc (tmCells a.head pa a.args.length ca) = W1 := ⟨_, rfl⟩
  have hs1 : W1.heap.size = w.heap.size + 1 := by rw [← hW1]; simp
  have hF1 : Below w.heap.size w W1 := by rw [← hW1]; exact (Below.refl _ w).alloc (Nat.le_refl _) _
  have L1 : Later (fun X => Vc w.heap.size a.head pa a.args.length ca X) W1 := by rw [← hW1]; exact later_var w _ _ _ _
  obtain ⟨W2, hW2⟩ : ∃ W2, W1.alloc (tmCells b.head pb b.args.length cb) = W2 := ⟨_, rfl⟩
  have hs2 : W2.heap.size = w.heap.size + 2 := by rw [← hW2]; simp; omega
  have hF2 : Below w.heap.size w W2 := by rw [← hW2]; exact hF1.alloc (by omega) _
  have L2 : Later (fun X => Vc W1.heap.size b.head pb b.args.length cb X) W2 := by rw [← hW2]; exact later_var W1 _ _ _ _
  have L1' : Later (fun X => Vc w.heap.size a.head pa a.args.length ca X) W2 := L1.mv (by rw [← hW2]; exact (Below.refl _ W1).alloc (Nat.le_refl _) _)
  obtain ⟨W3, hW3⟩ : ∃ W3, W2.alloc (.map #[] 0) = W3 := ⟨_, rfl⟩
  have hs3 : W3.heap.size = w.heap.size + 3 := by rw [← hW3]; simp; omega
  have hF3 : Below W2.heap.size W2 W3 := by rw [← hW3]; exact (Below.refl _ W2).alloc (Nat.le_refl _) _
  have hM3 : DifM W3 (w.heap.size + 2) ([], []) := by rw [← hW3, ← hs2]; exact DifM.made W2
  obtain ⟨W4, hW4⟩ : ∃ W4, W3.alloc (.cells #[.slice ga g.length gc, .int .i64 0, .map (some (w.heap.size + 2))] 78) = W4 := ⟨_, rfl⟩
  have hs4 : W4.heap.size = w.heap.size + 4 := by rw [← hW4]; simp; omega
  have hF4 : Below W2.heap.size W2 W4 := by rw [← hW4]; exact hF3.alloc (by omega) _
  have hM4 : DifM W4 (w.heap.size + 2) ([], []) := hM3.kept (by rw [← hW4]; exact Below.heap_alloc _ _ _ (by omega))
  have hS4 : Scl W4 (w.heap.size + 3) (w.heap.size + 2) g ga gc ([], []) := by
    refine ⟨?_, ?_, ?_, ?_, hM4, by simp⟩
    · rw [← hW4, ← hs3]; simp [go_sem]
    · rw [← hW4, ← hs3]; simp [go_sem, wS, sumA]
    · rw [← hW4, ← hs3]; simp [go_sem]
    · rw [← hW4, ← hs3]; simp [go_sem]
  have hb4 : Below w.heap.size w W4 := hF2.trans (hF4.mono (by omega))
  obtain ⟨hv0, hv1⟩ := (L1'.mv hF4).now
  obtain ⟨hu0, hu1⟩ := (L2.mv hF4).now
  rw [hs1] at hu0 hu1
  have HC := Lib.hid (scCmp_any g hr a.size a b (Nat.le_refl _) hfa hba hfb hbb hlen n₀ ga gc pa ca pb cb (w.heap.size + 3) (w.heap.size + 2) W4 (by omega) (by omega) (by omega) (hG.below (hb4.mono hn)) hwa hwb (hA.below (hb4.mono hn)) (hB.below (hb4.mono hn)) hS4)
  have HB4 := Lib.hid hb4
  clear hG hA hB hF1 L1 hF2 L2 L1' hF3 hM3 hF4 hM4 hS4 hb4
  go_enter Tryz.func40, Tryz.ntmps40
  go_wp2_with fail
  refine HC.out.mono ?_
  rintro e w5 ⟨rfl, S, hS5, hF5, _⟩
  have HB5 := Lib.hid (HB4.out.trans (hF5.below (B := w.heap.size) (by omega) (by omega) (by omega)))
  clear hS5 hF5
  go_wp2
  go_ret
  exact ⟨rfl, HB5.out⟩

/-- The first error of a row. -/
def errF (g : Sg) : List T → Int
  | [] => 0
  | t :: ts => if errT g t ≠ 0 then errT g t else errF g ts
def FeI (g : Sg) (ts : List T) (w : World) (i : Value) (wr : World) : Prop := ∃ k : Nat, k ≤ ts.length ∧ i = .int .i64 (k : Nat) ∧ errF g ts = errF g (ts.drop k) ∧ Below w.heap.size w wr

set_option maxRecDepth 100000 in
set_option maxHeartbeats 4000000 in
theorem firstError_any (g : Sg) (ts : List T) (hsz : ∀ t ∈ ts, t.size ≤ 1000000000000) (n₀ : Nat) (ga : Option Addr) (gc : Nat) (a : Option Addr) (c : Nat) (w : World) (hn : n₀ ≤ w.heap.size) (hG : IsSg n₀ w g ga gc) (hA : IsArgs n₀ w ts a c) :
    Calls Tryz.prog 33 #[.slice ga g.length gc, .slice a ts.length c] w fun e w' => e = .returned (.int .i64 (errF g ts)) ∧ Below w.heap.size w w' := by
  have hlc : ts.length ≤ c ∧ c ≤ maxLen := ⟨hA.1, hA.2.1⟩
  unfold maxLen at hlc
  obtain ⟨hl1, hl2⟩ := hlc
  have HA := Lib.hid hA
  have HG := Lib.hid hG
  have HSZ := Lib.hid hsz
  clear hA hG hsz
  go_enter Tryz.func33, Tryz.ntmps33
  go_wp2
  go_loopw [10] (fun i wr => FeI g ts w i wr) (fun i _ => ts.length - (intOf i).toNat)
  case atStart => exact ⟨0, Nat.zero_le _, rfl, by simp, Below.refl _ _⟩
  case round =>
    obtain ⟨k, hk, rfl, hE, hB⟩ := hrel
    have HE := Lib.hid hE
    have HB := Lib.hid hB
    have hbz := hB.size
    clear hE hB
    by_cases hlt : k < ts.length
    · obtain ⟨b, o, s, a', c', rfl, hbn, hs, hswf, hc1, hc2, hA'⟩ := (HA.out.below (HB.out.mono hn)).elem (i := k) hlt
      have hk0 : (0 : Int) ≤ (k : Int) := Int.natCast_nonneg _
      have hk1 : (k : Int) < (ts.length : Int) := by omega
      have hbw : b < wr.heap.size := by omega
      obtain ⟨W1, hW1⟩ : ∃ W1, wr.alloc (tmCells s.head a' s.args.length c') = W1 := ⟨_, rfl⟩
      have hF1 : Below wr.heap.size wr W1 := by rw [← hW1]; exact (Below.refl _ wr).alloc (Nat.le_refl _) _
      obtain ⟨hv0, hv1⟩ := (show Later (fun X => Vc wr.heap.size s.head a' s.args.length c' X) W1 from by rw [← hW1]; exact later_var wr _ _ _ _).now
      have hBW : Below n₀ w W1 := (HB.out.mono hn).trans (hF1.mono (by omega))
      have HC := Lib.hid (sgTerm_any g s (HSZ.out s (List.mem_of_getElem? hs)) n₀ ga gc a' c' W1 (by have := hF1.size; omega) (HG.out.below hBW) hswf (hA'.below (hF1.mono (by omega))))
      have HF1 := Lib.hid (HB.out.trans (hF1.mono hbz))
      have hst : errF g (ts.drop k) = if errT g s ≠ 0 then errT g s else errF g (ts.drop (k + 1)) := by
        obtain ⟨hkl, hke⟩ := List.getElem?_eq_some_iff.1 hs
        rw [List.drop_eq_getElem_cons hkl, hke]; rfl
      have HST := Lib.hid hst
      clear hs hswf hA' hst hBW hF1
      go_wp2_with fail
      refine HC.out.mono ?_
      rintro e w2 ⟨rfl, hb2⟩
      have HB2 := Lib.hid (HF1.out.trans (hb2.mono HF1.out.size))
      clear hb2
      obtain ⟨r, hr⟩ : ∃ r, errT g s = r := ⟨_, rfl⟩
      rw [hr] at HST ⊢
      clear hr
      by_cases h0 : r = 0
      · have HN := Lib.hid (show errF g ts = errF g (ts.drop (k + 1)) from by rw [HE.out, HST.out, if_neg (by simpa using h0)])
        subst h0
        go_wp2
        go_roundw
        case rel => exact ⟨k + 1, by omega, by go_num, HN.out, HB2.out⟩
        case measure => simp [intOf]; omega
      · have HN := Lib.hid (show errF g ts = r from by rw [HE.out, HST.out, if_pos h0])
        have h1 : (r != 0) = true := by simpa using h0
        clear h0
        go_wp2
        go_ret
        exact ⟨by rw [HN.out]; rfl, HB2.out⟩
    · obtain rfl : k = ts.length := by omega
      have HN := Lib.hid (show errF g ts = 0 from by rw [HE.out, List.drop_of_length_le (Nat.le_refl _)]; rfl)
      go_wp2
      go_ret
      exact ⟨by rw [HN.out]; rfl, HB.out⟩

/-- What Compare answers. -/
def cmpV (g : Sg) (a b : T) : Value := if errF g [a, b] = 0 then .tuple #[.int .i64 (stand g a b), .int .i64 0] else .tuple #[.int .i64 0, .int .i64 (errF g [a, b])]
theorem errF_two {g : Sg} {a b : T} (h : errF g [a, b] = 0) : errT g a = 0 ∧ errT g b = 0 := by
  unfold errF at h
  split at h
  · rename_i q; exact absurd h q
  · rename_i q
    unfold errF at h
    split at h
    · rename_i q'; exact absurd h q'
    · rename_i q'; exact ⟨by simpa using q, by simpa using q'⟩

set_option maxRecDepth 100000 in
set_option maxHeartbeats 4000000 in
theorem kCompare_any (g : Sg) (a b : T) (hza : a.size ≤ 1000000000000) (hzb : b.size ≤ 1000000000000) (n₀ : Nat) (ga : Option Addr) (gc : Nat) (pa : Option Addr) (ca : Nat) (pb : Option Addr) (cb : Nat) (w : World) (hn : n₀ ≤ w.heap.size) (hG : IsSg n₀ w g ga gc) (hwa : (Lit.int .i64 a.head).wf = true) (hwb : (Lit.int .i64 b.head).wf = true) (hA : IsArgs n₀ w a.args pa ca) (hB : IsArgs n₀ w b.args pb cb) :
    Calls Tryz.prog 18 #[.slice ga g.length gc, tm a.head pa a.args.length ca, tm b.head pb b.args.length cb] w fun e w' => e = .returned (cmpV g a b) ∧ Below w.heap.size w w' := by
  obtain ⟨W1, hW1⟩ : ∃ W1, w.alloc (tmCells a.head pa a.args.length ca) = W1 := ⟨_, rfl⟩
  have hs1 : W1.heap.size = w.heap.size + 1 := by rw [← hW1]; simp
  have hF1 : Below w.heap.size w W1 := by rw [← hW1]; exact (Below.refl _ w).alloc (Nat.le_refl _) _
  have L1 : Later (fun X => Vc w.heap.size a.head pa a.args.length ca X) W1 := by rw [← hW1]; exact later_var w _ _ _ _
  obtain ⟨W2, hW2⟩ : ∃ W2, W1.alloc (tmCells b.head pb b.args.length cb) = W2 := ⟨_, rfl⟩
  have hs2 : W2.heap.size = w.heap.size + 2 := by rw [← hW2]; simp; omega
  have hF2 : Below w.heap.size w W2 := by rw [← hW2]; exact hF1.alloc (by omega) _
  have L2 : Later (fun X => Vc W1.heap.size b.head pb b.args.length cb X) W2 := by rw [← hW2]; exact later_var W1 _ _ _ _
  have L1' : Later (fun X => Vc w.heap.size a.head pa a.args.length ca X) W2 := L1.mv (by rw [← hW2]; exact (Below.refl _ W1).alloc (Nat.le_refl _) _)
  obtain ⟨W3, hW3⟩ : ∃ W3, W2.alloc (.cells #[.int .i64 a.head, .slice pa a.args.length ca, .int .i64 b.head, .slice pb b.args.length cb] 25) = W3 := ⟨_, rfl⟩
  have hs3 : W3.heap.size = w.heap.size + 3 := by rw [← hW3]; simp; omega
  have hF3 : Below W2.heap.size W2 W3 := by rw [← hW3]; exact (Below.refl _ W2).alloc (Nat.le_refl _) _
  have hb3 : Below w.heap.size w W3 := hF2.trans (hF3.mono (by omega))
  have hA3 : IsArgs W3.heap.size W3 a.args pa ca := (hA.below (hb3.mono hn)).mono (by omega)
  have hB3 : IsArgs W3.heap.size W3 b.args pb cb := (hB.below (hb3.mono hn)).mono (by omega)
  have hrow : IsArgs W3.heap.size W3 [a, b] (some ⟨w.heap.size + 2, 0, none⟩) 2 := by
    refine ⟨by simp, by simp [maxLen], .inr ⟨w.heap.size + 2, 0, rfl, by omega, ?_⟩⟩
    have e : ∀ i, W3.cell? ⟨w.heap.size + 2, i, none⟩ = (#[Value.int .i64 a.head, .slice pa a.args.length ca, .int .i64 b.head, .slice pb b.args.length cb] : Array Value)[i]? := fun i => by
      rw [← hW3, ← hs2]; simp [go_sem]
    exact ⟨isT_iff.2 ⟨hwa, by rw [e]; rfl, pa, ca, by rw [e]; rfl, hA3⟩, isT_iff.2 ⟨hwb, by rw [e]; rfl, pb, cb, by rw [e]; rfl, hB3⟩, trivial⟩
  have HFE := Lib.hid (firstError_any g [a, b] (by intro t ht; simp at ht; rcases ht with rfl | rfl <;> assumption) W3.heap.size ga gc _ 2 W3 (Nat.le_refl _) ((hG.below (hb3.mono hn)).mono (by omega)) hrow)
  have LT := Lib.hid ((L1'.mv hF3).and (L2.mv hF3))
  have HB3 := Lib.hid hb3
  have HCM := Lib.hid (fun (h0 : errF g [a, b] = 0) (W : World) (hW : Below w.heap.size w W) => by
    obtain ⟨h1, h2⟩ := errF_two h0
    obtain ⟨r1, r2, r3, _⟩ := errT_ok h1
    obtain ⟨_, s2, s3, _⟩ := errT_ok h2
    obtain ⟨k1, _, k3⟩ := check_ok r2
    obtain ⟨j1, _, j3⟩ := check_ok s2
    exact kcmp_any g r1 a b r3 k3 s3 j3 (by omega) n₀ ga gc pa ca pb cb W (Nat.le_trans hn hW.size) (hG.below (hW.mono hn)) hwa hwb (hA.below (hW.mono hn)) (hB.below (hW.mono hn)))
  obtain ⟨⟨hu0, hu1⟩, hv0, hv1⟩ := ((L1'.mv hF3).and (L2.mv hF3)).now
  obtain ⟨⟨hu0', hu1'⟩, hv0', hv1'⟩ := (L1'.and L2).now
  rw [hs1] at hu0 hu1 hu0' hu1'
  clear hG hA hB hF1 L1 hF2 L2 L1' hF3 hA3 hB3 hrow hb3
  go_enter Tryz.func18, Tryz.ntmps18
  go_wp2_with fail
  refine HFE.out.mono ?_
  rintro e w4 ⟨rfl, hb4⟩
  have HB4 := Lib.hid (HB3.out.trans (hb4.mono HB3.out.size))
  have LT4 := Lib.hid (LT.out.mv hb4)
  clear hb4
  by_cases h0 : errF g [a, b] = 0
  · have HC := Lib.hid (HCM.out h0 w4 HB4.out)
    have HV := Lib.hid (show cmpV g a b = .tuple #[.int .i64 (stand g a b), .int .i64 0] from by unfold cmpV; rw [if_pos h0])
    obtain ⟨⟨q0, q1⟩, q2, q3⟩ := LT4.out.now
    rw [hs1] at q0 q1
    rw [h0]
    clear h0
    go_wp2_with fail
    refine HC.out.mono ?_
    rintro e w5 ⟨rfl, hb5⟩
    have HB5 := Lib.hid (HB4.out.trans (hb5.mono HB4.out.size))
    clear hb5
    go_wp2
    refine bodyPost_ret (v := .tuple #[.int .i64 (stand g a b), .int .i64 0]) (by simp [results, Tryz.results18, go_sem]) rfl ?_
    exact ⟨by rw [HV.out], HB5.out⟩
  · have HV := Lib.hid (show cmpV g a b = .tuple #[.int .i64 0, .int .i64 (errF g [a, b])] from by unfold cmpV; rw [if_neg h0])
    obtain ⟨r, hr⟩ : ∃ r, errF g [a, b] = r := ⟨_, rfl⟩
    rw [hr] at HV h0 ⊢
    have h1 : (r != 0) = true := by simpa using h0
    clear h0 hr
    go_wp2
    refine bodyPost_ret (v := .tuple #[.int .i64 0, .int .i64 r]) (by simp [results, Tryz.results18, go_sem]) rfl ?_
    exact ⟨by rw [HV.out], HB4.out⟩

end Go.Proofs.YtleohdddaadbeaaGreat
