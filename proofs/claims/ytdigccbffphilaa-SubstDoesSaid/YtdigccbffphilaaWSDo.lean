/- The walk of SubstDoes. -/
import Derived.Test.YtdigccbffphilaaRShf
import Derived.Test.YtdigccbffphilaaAw3
import Derived.Test.YtdigccbffphilaaFewS
namespace Go.Proofs.Ytdigccbffphilaa
set_option linter.unusedVariables false
set_option linter.unusedSimpArgs false
open Go.RowKit

theorem appT_size {s : Sb} {t : T} : (appT s t).size ≤ 1000000 := by
  unfold appT
  split
  · unfold endT
    split
    · rename_i h; exact Nat.le_trans (check_ok h).1 (by omega)
    · simp [Z0, T.size, T.sizes]
  · simp [Z0, T.size, T.sizes]
theorem shfT_size {t : T} {y : Int} : (shfT t y).size ≤ 1000000 := by
  unfold shfT
  split
  · unfold endT
    split
    · rename_i h; exact Nat.le_trans (check_ok h).1 (by omega)
    · simp [Z0, T.size, T.sizes]
  · simp [Z0, T.size, T.sizes]

/-- What the reference's Check of substitutions answers. -/
def CheckSAny : Prop := ∀ (s : Sb), (∀ x ∈ s, x.2.size ≤ 1000000) → ∀ (n₀ : Nat) (a : Option Addr) (c : Nat) (w : World), n₀ ≤ w.heap.size → IsBs n₀ w s a c →
  Calls Try.prog 28 #[.slice a s.length c] w fun e w' => e = .returned (.int .i64 (errS s)) ∧ Below w.heap.size w w'

set_option maxRecDepth 100000 in
set_option maxHeartbeats 8000000 in
theorem substDoes_walk0 (RS : RightSAny) (RC : CheckSAny) (s : Sb) (t : T) (n : Int) (as_ : Option Addr) (cs : Nat) (a : Option Addr) (c : Nat) (w : World) (htw : (Lit.int .i64 t.head).wf = true) (hnw : (Lit.int .i64 n).wf = true) (hS : IsBs w.heap.size w s as_ cs) (hA : IsArgs w.heap.size w t.args a c) :
    Calls Try.prog 4 #[.slice as_ s.length cs, tm t.head a t.args.length c, .int .i64 n] w fun e w' => e = .returned (.bool true) ∧ Below w.heap.size w w' := by
  have HTW := Lib.hid htw
  have HRS := Lib.hid RS
  have HRC := Lib.hid RC
  obtain ⟨hn1, hn2⟩ := wf_low hnw
  have D := Lib.hid ((((Later.below (Below.refl _ w)).and (later_bs hS)).and (later_args hA)).push (Below.refl _ _) t.head a t.args.length c)
  clear htw hS hA RS RC hnw
  go_enter Try.func4, Try.ntmps4
  go_wp2_with fail
  generalize w.alloc (tmCells t.head a t.args.length c) = wB at D ⊢
  generalize hbt : w.heap.size = bt at D ⊢
  have HBT := Lib.hid hbt
  clear hbt
  refine (fewS_any s wB.heap.size as_ cs wB (Nat.le_refl _) D.out.now.2.2.1).mono ?_
  rintro e w1 ⟨f1, rfl, hfew, hb⟩
  have D1 := Lib.hid (D.out.mv hb)
  clear hb D
  cases f1
  case false =>
    have HQ := Lib.hid D1.out.now.2.2.2
    clear D1 hfew
    go_wp2
    go_ret
    exact ⟨rfl, by rw [HBT.out]; exact HQ.out⟩
  have hss := hfew rfl
  have HSS := Lib.hid (show ∀ x ∈ s, x.2.size ≤ 1000000 from fun x hx => Nat.le_trans (hss x hx) (by omega))
  clear hfew hss
  obtain ⟨⟨t0, t1⟩, _⟩ := D1.out.now
  go_wp2_with fail
  clear t0 t1
  refine (few_any t w1.heap.size a c w1 (Nat.le_refl _) D1.out.now.2.1).mono ?_
  rintro e w2 ⟨rfl, hb⟩
  have D2 := Lib.hid (D1.out.mv hb)
  clear hb D1
  have hfew : decide (t.size ≤ 500) = true → t.size ≤ 500 := by simp
  generalize decide (t.size ≤ 500) = f2 at hfew ⊢
  cases f2
  case false =>
    have HQ := Lib.hid D2.out.now.2.2.2
    clear D2 hfew
    go_wp2
    go_ret
    exact ⟨rfl, by rw [HBT.out]; exact HQ.out⟩
  have hts := hfew rfl
  clear hfew
  obtain ⟨⟨t0, t1⟩, _⟩ := D2.out.now
  go_wp2_with fail
  clear t0 t1
  refine (apply_any s HSS.out t (by omega) w2.heap.size as_ cs a c w2 (Nat.le_refl _) D2.out.now.2.2.1 HTW.out D2.out.now.2.1).mono ?_
  have hxs : (appT s t).size ≤ 1000000 := appT_size
  rintro e w3 ⟨a1, c1, rfl, _, hxA, hb⟩
  have D3 := Lib.hid (D2.out.pushT hb _ a1 c1 hxA)
  clear hb hxA D2
  generalize hx : appT s t = x at D3 hxs ⊢
  generalize he : appE s t = ek at ⊢
  have HX := Lib.hid hx
  have HE := Lib.hid he
  clear hx he
  obtain ⟨_, _, ⟨t0, t1⟩, _⟩ := D3.out.now
  go_wp2_with fail
  clear t0 t1
  generalize w3.alloc (tmCells x.head a1 x.args.length c1) = w4 at D3 ⊢
  generalize w3.heap.size = b1 at D3 ⊢
  refine (refApply_any HRS.out s HSS.out t (by omega) w4.heap.size as_ cs a c w4 (Nat.le_refl _) D3.out.now.2.2.2.2.1 HTW.out D3.out.now.2.2.2.1).mono ?_
  rw [HX.out, HE.out]
  rintro e w5 ⟨a2, c2, rfl, _, hyA, hb⟩
  have D4 := Lib.hid (D3.out.pushT hb _ a2 c2 hyA)
  clear hb hyA D3 HX HE
  obtain ⟨_, _, _, _, ⟨t0, t1⟩, _⟩ := D4.out.now
  go_wp2_with fail
  clear t0 t1
  generalize w5.alloc (tmCells x.head a2 x.args.length c2) = w6 at D4 ⊢
  generalize w5.heap.size = b2 at D4 ⊢
  refine (shift_any t (by omega) n w6.heap.size a c w6 (Nat.le_refl _) HTW.out D4.out.now.2.2.2.2.2.1).mono ?_
  have hys : (shfT t n).size ≤ 1000000 := shfT_size
  rintro e w7 ⟨a3, c3, rfl, _, hzA, hb⟩
  have D5 := Lib.hid (D4.out.pushT hb _ a3 c3 hzA)
  clear hb hzA D4
  generalize hy : shfT t n = y at D5 hys ⊢
  generalize he : shfE t n = el at ⊢
  have HY := Lib.hid hy
  have HE := Lib.hid he
  clear hy he
  obtain ⟨_, _, _, _, _, _, ⟨t0, t1⟩, _⟩ := D5.out.now
  go_wp2_with fail
  clear t0 t1
  generalize w7.alloc (tmCells y.head a3 y.args.length c3) = w8 at D5 ⊢
  generalize w7.heap.size = b3 at D5 ⊢
  refine (refShift_any t (by omega) n w8.heap.size a c w8 (Nat.le_refl _) HTW.out D5.out.now.2.2.2.2.2.2.2.1).mono ?_
  rw [HY.out, HE.out]
  rintro e w9 ⟨a4, c4, rfl, _, hzA, hb⟩
  have D6 := Lib.hid (D5.out.pushT hb _ a4 c4 hzA)
  clear hb hzA D5 HY HE
  go_wp2_with fail
  generalize w9.alloc (tmCells y.head a4 y.args.length c4) = w10 at D6 ⊢
  generalize w9.heap.size = b4 at D6 ⊢
  have LF := Lib.hid (show ∀ X, Below w10.heap.size w10 X → (Vc b4 y.head a4 y.args.length c4 X ∧ IsArgs X.heap.size X y.args a4 c4) ∧ (Vc b3 y.head a3 y.args.length c3 X ∧ IsArgs X.heap.size X y.args a3 c3) ∧ (Vc b2 x.head a2 x.args.length c2 X ∧ IsArgs X.heap.size X x.args a2 c2) ∧ (Vc b1 x.head a1 x.args.length c1 X ∧ IsArgs X.heap.size X x.args a1 c1) ∧ IsBs X.heap.size X s as_ cs ∧ Below bt w X from fun X hX => by
    obtain ⟨h1, h2, h3, h4, h5, h6, h7, h8, _, _, h11, h12⟩ := D6.out X hX
    exact ⟨⟨h1, h2⟩, ⟨h3, h4⟩, ⟨h5, h6⟩, ⟨h7, h8⟩, h11, h12⟩)
  clear D6
  refine (awake3_any w10).mono ?_
  rintro e w11 ⟨rfl, hb⟩
  have HB := Lib.hid hb
  clear hb
  go_wp2_with fail
  refine (sCheck_any s HSS.out w11.heap.size as_ cs w11 (Nat.le_refl _) (LF.out w11 HB.out).2.2.2.2.1).mono ?_
  rintro e w12 ⟨rfl, hb⟩
  have HB' := Lib.hid (HB.out.trans (hb.mono HB.out.size))
  clear hb HB
  have HB := HB'
  clear HB'
  obtain ⟨er, her⟩ : ∃ er, errS s = er := ⟨_, rfl⟩
  rw [her]
  have HER := Lib.hid her
  clear her
  go_wp2_with fail
  refine (HRC.out s HSS.out w12.heap.size as_ cs w12 (Nat.le_refl _) (LF.out w12 HB.out).2.2.2.2.1).mono ?_
  rw [HER.out]
  rintro e w13 ⟨rfl, hb⟩
  have HB' := Lib.hid (HB.out.trans (hb.mono HB.out.size))
  clear hb HB
  have HB := HB'
  clear HB'
  obtain ⟨_, _, ⟨⟨q2, q3⟩, _⟩, ⟨⟨q0, q1⟩, _⟩, _⟩ := LF.out w13 HB.out
  go_wp2_with fail
  clear q0 q1 q2 q3
  refine (sameAt_any x x rfl hxs w13.heap.size a1 c1 a2 c2 w13 (Nat.le_refl _) (LF.out w13 HB.out).2.2.2.1.2 (LF.out w13 HB.out).2.2.1.2).mono ?_
  rintro e w14 ⟨rfl, hb⟩
  have HB' := Lib.hid (HB.out.trans (hb.mono HB.out.size))
  clear hb HB
  have HB := HB'
  clear HB'
  obtain ⟨⟨⟨q2, q3⟩, _⟩, ⟨⟨q0, q1⟩, _⟩, _⟩ := LF.out w14 HB.out
  go_wp2_with fail
  clear q0 q1 q2 q3
  refine (sameAt_any y y rfl hys w14.heap.size a3 c3 a4 c4 w14 (Nat.le_refl _) (LF.out w14 HB.out).2.1.2 (LF.out w14 HB.out).1.2).mono ?_
  rintro e w15 ⟨rfl, hb⟩
  have HB' := Lib.hid (HB.out.trans (hb.mono HB.out.size))
  clear hb HB
  have HB := HB'
  clear HB'
  by_cases r1 : n < 0
  · have HQ := Lib.hid (LF.out w15 HB.out).2.2.2.2.2
    go_wp2
    go_ret
    exact ⟨by simp, by rw [HBT.out]; exact HQ.out⟩
  by_cases r2 : 1000 < n
  · have HQ := Lib.hid (LF.out w15 HB.out).2.2.2.2.2
    go_wp2
    go_ret
    exact ⟨by simp, by rw [HBT.out]; exact HQ.out⟩
  have hos := ofS_size (n := 1000000) (by omega) HSS.out n
  go_wp2_with fail
  refine (of_any s n w15.heap.size as_ cs w15 (Nat.le_refl _) hn1 hn2 (LF.out w15 HB.out).2.2.2.2.1).mono ?_
  obtain ⟨u, hu⟩ : ∃ u, ofS s n = u := ⟨_, rfl⟩
  rw [hu] at hos ⊢
  have HU := Lib.hid hu
  clear hu
  rintro e w16 ⟨a5, c5, rfl, _, h5A, hb⟩
  have HB' := Lib.hid (HB.out.trans (hb.mono HB.out.size))
  have H5 := Lib.hid (later_args (h5A.mono hb.size))
  clear hb HB h5A
  have HB := HB'
  clear HB'
  go_wp2_with fail
  refine (refOf_any s n w16.heap.size as_ cs w16 (Nat.le_refl _) hn1 hn2 (LF.out w16 HB.out).2.2.2.2.1).mono ?_
  rw [HU.out]
  rintro e w17 ⟨a6, c6, rfl, _, h6A, hb⟩
  have HB' := Lib.hid (HB.out.trans (hb.mono HB.out.size))
  have H5' := Lib.hid (H5.out w17 hb)
  have H6 := Lib.hid (h6A.mono hb.size)
  clear hb HB h6A
  have HB := HB'
  clear HB'
  go_wp2_with fail
  refine (sameAt_any u u rfl hos w17.heap.size a5 c5 a6 c6 w17 (Nat.le_refl _) H5'.out H6.out).mono ?_
  rintro e w18 ⟨rfl, hb⟩
  have HQ := Lib.hid (LF.out w18 (HB.out.trans (hb.mono HB.out.size))).2.2.2.2.2
  clear hb
  go_wp2
  go_ret
  exact ⟨by simp, by rw [HBT.out]; exact HQ.out⟩

end Go.Proofs.Ytdigccbffphilaa
