/- PUMo: joined of WUMo, PUMo. -/
import Derived.Test.YtcbjnfdhghhgeaaWUSi
import Derived.Test.YtcbjnfdhghhgeaaFewS
import Derived.Test.YtcbjnfdhghhgeaaLaw3
/- The walk of UnifyMost. -/
namespace Go.Proofs.Ytcbjnfdhghhgeaa
set_option linter.unusedVariables false
set_option linter.unusedSimpArgs false
open Go.RowKit

def MoI (n : Nat) (w : World) (i : Value) (wr : World) : Prop := ∃ k : Nat, k ≤ n ∧ i = .int .i64 k ∧ Below w.heap.size w wr
set_option maxRecDepth 100000 in
set_option maxHeartbeats 8000000 in
theorem unifyMost_walk (x y : T) (u : Sb) (a : Option Addr) (c : Nat) (a' : Option Addr) (c' : Nat) (au : Option Addr) (cu : Nat) (w : World) (hxw : (Lit.int .i64 x.head).wf = true) (hyw : (Lit.int .i64 y.head).wf = true) (hA : IsArgs w.heap.size w x.args a c) (hB : IsArgs w.heap.size w y.args a' c') (hU : IsBs w.heap.size w u au cu) :
    Calls Try.prog 5 #[tm x.head a x.args.length c, tm y.head a' y.args.length c', .slice au u.length cu] w fun e w' => e = .returned (.bool true) ∧ Below w.heap.size w w' := by
  have HXW := Lib.hid hxw
  have HYW := Lib.hid hyw
  have d0 := (((((Later.below (Below.refl _ w)).and (later_bs hU)).and (later_args hB)).and (later_args hA)).push (Below.refl _ _) x.head a x.args.length c).push (Below.refl _ _) y.head a' y.args.length c'
  rw [heap_alloc_size] at d0
  have D := Lib.hid d0
  clear hxw hyw hA hB hU d0
  go_enter Try.func5, Try.ntmps5
  go_wp2_with fail
  have hsz : ((w.alloc (.cells #[.int .i64 x.head, .slice a x.args.length c] 25)).alloc (.cells #[.int .i64 y.head, .slice a' y.args.length c'] 25)).heap.size = w.heap.size + 1 + 1 := by simp
  generalize (w.alloc (.cells #[.int .i64 x.head, .slice a x.args.length c] 25)).alloc (.cells #[.int .i64 y.head, .slice a' y.args.length c'] 25) = wB at D hsz ⊢
  have d1 := D.out.pushC (Below.refl _ _) #[.int .i64 x.head, .slice a x.args.length c, .int .i64 y.head, .slice a' y.args.length c'] 25
  rw [hsz] at d1
  have D1 := Lib.hid d1
  clear d1 hsz D
  generalize wB.alloc (.cells #[.int .i64 x.head, .slice a x.args.length c, .int .i64 y.head, .slice a' y.args.length c'] 25) = w1 at D1 ⊢
  generalize hb0 : w.heap.size = b0 at D1 ⊢
  have HB0 := Lib.hid hb0
  clear hb0
  refine (few4_any [x, y] w1.heap.size _ 2 w1 (Nat.le_refl _) (two_mem D1.out.now.1 HXW.out HYW.out D1.out.now.2.2.2.1 D1.out.now.2.2.2.2.1)).mono ?_
  rintro e w2 ⟨f1, rfl, hfew, hb⟩
  have D2 := Lib.hid (D1.out.mv hb)
  clear hb D1
  cases f1
  case false =>
    have HQ := Lib.hid D2.out.now.2.2.2.2.2.2
    clear D2 hfew
    go_wp2
    go_ret
    exact ⟨rfl, by rw [HB0.out]; exact HQ.out⟩
  have hxs : x.size ≤ 1000000000000 := Nat.le_trans (hfew rfl x (by simp)) (by omega)
  have hys : y.size ≤ 1000000000000 := Nat.le_trans (hfew rfl y (by simp)) (by omega)
  clear hfew
  go_wp2_with fail
  refine (fewS_any u w2.heap.size au cu w2 (Nat.le_refl _) D2.out.now.2.2.2.2.2.1).mono ?_
  rintro e w2' ⟨f1, rfl, hfew, hb⟩
  have D2' := Lib.hid (D2.out.mv hb)
  clear hb D2
  cases f1
  case false =>
    have HQ := Lib.hid D2'.out.now.2.2.2.2.2.2
    clear D2' hfew
    go_wp2
    go_ret
    exact ⟨rfl, by rw [HB0.out]; exact HQ.out⟩
  have HUS := Lib.hid (show ∀ x ∈ u, x.2.size ≤ 1000000000000 from fun x hx => Nat.le_trans (hfew rfl x hx) (by omega))
  clear hfew
  obtain ⟨_, ⟨y0, y1⟩, ⟨x0, x1⟩, _⟩ := D2'.out.now
  go_wp2_with fail
  clear y0 y1 x0 x1
  refine (mgu_full x y hxs hys w2'.heap.size a c a' c' w2' (Nat.le_refl _) HXW.out HYW.out D2'.out.now.2.2.2.1 D2'.out.now.2.2.2.2.1).mono ?_
  rintro e w3 ⟨w2', hbb, h3⟩
  obtain ⟨s, b1, k1, as1, cs1, rfl, hS, hb, hR1⟩ := mgu_key h3
  have D3 := Lib.hid (((D2'.out.mv hbb).mv hb).and (later_bs hS))
  clear h3 hS hb hbb D2'
  have HR := Lib.hid hR1
  clear hR1
  obtain ⟨_, _, ⟨y0, y1⟩, ⟨x0, x1⟩, _⟩ := D3.out.now
  go_wp2_with fail
  clear y0 y1 x0 x1
  refine (apply_any u HUS.out x hxs w3.heap.size au cu a c w3 (Nat.le_refl _) D3.out.now.2.2.2.2.2.2.1 HXW.out D3.out.now.2.2.2.2.1).mono ?_
  rintro e w4 ⟨a1, c1, rfl, hyw, hyA, hb⟩
  have D4 := Lib.hid (D3.out.pushT hb _ a1 c1 hyA)
  clear hb hyA hyw D3
  have hys1 : (appT u x).size ≤ 1000000000000 := appT_small
  generalize hx1 : appT u x = x' at D4 hys1 ⊢
  generalize hf : appE u x = f at ⊢
  have HX1 := Lib.hid hx1
  have HF := Lib.hid hf
  clear hx1 hf
  obtain ⟨_, _, _, _, ⟨y0, y1⟩, ⟨x0, x1⟩, _⟩ := D4.out.now
  go_wp2_with fail
  clear y0 y1 x0 x1
  generalize w4.alloc (tmCells x'.head a1 x'.args.length c1) = w5 at D4 ⊢
  generalize w4.heap.size = b4 at D4 ⊢
  refine (apply_any u HUS.out y hys w5.heap.size au cu a' c' w5 (Nat.le_refl _) D4.out.now.2.2.2.2.2.2.2.2.1 HYW.out D4.out.now.2.2.2.2.2.2.2.1).mono ?_
  rintro e w6 ⟨a2, c2, rfl, hyw, hyA, hb⟩
  have D5 := Lib.hid (D4.out.pushT hb _ a2 c2 hyA)
  clear hb hyA hyw D4
  have hys2 : (appT u y).size ≤ 1000000000000 := appT_small
  generalize hx1 : appT u y = y' at D5 hys2 ⊢
  generalize hf : appE u y = g at ⊢
  have HX2 := Lib.hid hx1
  have HG := Lib.hid hf
  clear hx1 hf
  obtain ⟨⟨y0, y1⟩, _, ⟨x0, x1⟩, _⟩ := D5.out.now
  by_cases qk : k1 = 0
  case neg =>
    have hne : (k1 == 0) = false := by simpa using qk
    clear HR HF HG HX1 HX2 x0 x1 y0 y1
    go_wp2_with fail
    generalize w6.alloc (tmCells y'.head a2 y'.args.length c2) = w7 at D5 ⊢
    refine (awake4_any w7).mono ?_
    rintro e w8 ⟨rfl, hb⟩
    have HQ := Lib.hid (D5.out w8 hb).2.2.2.2.2.2.2.2.2.2.2
    clear hb D5
    go_wp2
    go_ret
    exact ⟨rfl, by rw [HB0.out]; exact HQ.out⟩
  by_cases qf : f = 0
  case neg =>
    have hne : (f == 0) = false := by simpa using qf
    subst qk
    clear HR HF HG HX1 HX2 x0 x1 y0 y1
    go_wp2_with fail
    generalize w6.alloc (tmCells y'.head a2 y'.args.length c2) = w7 at D5 ⊢
    refine (awake4_any w7).mono ?_
    rintro e w8 ⟨rfl, hb⟩
    have HQ := Lib.hid (D5.out w8 hb).2.2.2.2.2.2.2.2.2.2.2
    clear hb D5
    go_wp2
    go_ret
    exact ⟨rfl, by rw [HB0.out]; exact HQ.out⟩
  by_cases qg : g = 0
  case neg =>
    have hne : (g == 0) = false := by simpa using qg
    subst qk qf
    clear HR HF HG HX1 HX2 x0 x1 y0 y1
    go_wp2_with fail
    generalize w6.alloc (tmCells y'.head a2 y'.args.length c2) = w7 at D5 ⊢
    refine (awake4_any w7).mono ?_
    rintro e w8 ⟨rfl, hb⟩
    have HQ := Lib.hid (D5.out w8 hb).2.2.2.2.2.2.2.2.2.2.2
    clear hb D5
    go_wp2
    go_ret
    exact ⟨rfl, by rw [HB0.out]; exact HQ.out⟩
  subst qk qf qg
  go_wp2_with fail
  clear x0 x1 y0 y1
  generalize w6.alloc (tmCells y'.head a2 y'.args.length c2) = w7 at D5 ⊢
  generalize w6.heap.size = b6 at D5 ⊢
  refine (refSame_any x' y' hys1 hys2 w7.heap.size a1 c1 a2 c2 w7 (Nat.le_refl _) D5.out.now.2.2.2.1 D5.out.now.2.1).mono ?_
  rintro e w8 ⟨rfl, hb⟩
  have D6 := Lib.hid (D5.out.mv hb)
  clear hb D5
  by_cases qe : T.cmp x' y' = 0
  case neg =>
    rw [decide_eq_false qe]
    clear HR HF HG HX1 HX2 qe
    go_wp2_with fail
    refine (awake4_any w8).mono ?_
    rintro e w9 ⟨rfl, hb⟩
    have HQ := Lib.hid (D6.out w9 hb).2.2.2.2.2.2.2.2.2.2.2
    clear hb D6
    go_wp2
    go_ret
    exact ⟨rfl, by rw [HB0.out]; exact HQ.out⟩
  rw [decide_eq_true qe]
  obtain ⟨rfl, hss, hall⟩ := most_key HR.out rfl HF.out HG.out (by rw [HX1.out, HX2.out]; exact T.cmp_zero.1 qe)
  have HALL := Lib.hid hall
  clear hall HR HF HG HX1 HX2 qe
  have LF := Lib.hid (show ∀ X, Below w8.heap.size w8 X → IsBs w8.heap.size X s as1 cs1 ∧ IsBs w8.heap.size X u au cu ∧ Below b0 w X from fun X hX => by
    have h1 := D6.out X hX
    have h2 := D6.out.now
    exact ⟨h2.2.2.2.2.1.below hX, h2.2.2.2.2.2.2.2.2.2.2.1.below hX, h1.2.2.2.2.2.2.2.2.2.2.2⟩)
  have hl : s.length ≤ cs1 ∧ cs1 ≤ maxLen := ⟨D6.out.now.2.2.2.2.1.1, D6.out.now.2.2.2.2.1.2.1⟩
  unfold maxLen at hl
  obtain ⟨hl1, hl2⟩ := hl
  clear D6
  go_wp2
  go_loopw [14] (fun i wr => MoI s.length w8 i wr) (fun i _ => s.length - (intOf i).toNat)
  case atStart => exact ⟨0, Nat.zero_le _, rfl, Below.refl _ _⟩
  case round =>
    obtain ⟨k, hk, rfl, hB⟩ := hrel
    have HB := Lib.hid hB
    have hbz := hB.size
    clear hB
    by_cases hlt : k < s.length
    · have hk0 : (0 : Int) ≤ (k : Int) := Int.natCast_nonneg _
      have hk1 : (k : Int) < (s.length : Int) := by omega
      obtain ⟨b, o, v, t, at_, ct, rfl, hbn, hsk, hvw, htw, hc0, hc1, hc2, hA'⟩ := (LF.out wr HB.out).1.elem (i := k) hlt
      obtain ⟨⟨hv0, hv1⟩, e1, e2, e3⟩ := HALL.out _ (List.mem_of_getElem? hsk)
      have HA' := Lib.hid hA'
      have HSK := Lib.hid hsk
      have HT := Lib.hid htw
      have E1 := Lib.hid e1
      have E2 := Lib.hid e2
      have E3 := Lib.hid e3
      clear hsk hvw htw hA' e1 e2 e3
      go_wp2_with fail
      have D0 := Lib.hid (show Later (fun X => X.cell? ⟨b, o + k * 3 + 1, none⟩ = some (.int .i64 t.head) ∧ X.cell? ⟨b, o + k * 3 + 2, none⟩ = some (.slice at_ t.args.length ct) ∧ IsArgs X.heap.size X t.args at_ ct ∧ IsBs X.heap.size X u au cu ∧ Below w8.heap.size w8 X) wr from fun X hX => by
        have hb : b < wr.heap.size := Nat.lt_of_lt_of_le hbn hbz
        have hBX := HB.out.trans (hX.mono hbz)
        exact ⟨(hX.cell hb).trans hc1, (hX.cell hb).trans hc2, ((HA'.out.mono hbz).below hX).mono hX.size, (LF.out X hBX).2.1.mono hBX.size, hBX⟩)
      clear hc0 hc1 hc2 HA'
      refine (refVar_any v _ (by omega) (by omega)).mono ?_
      rintro e u1 ⟨rfl, hb⟩
      have D1 := Lib.hid ((D0.out.mv hb).push (Below.refl _ _) (-1 - v) none 0 0)
      have VW := Lib.hid (wf_vt (v := v) (by omega) (by omega))
      clear hb D0
      go_wp2_with fail
      generalize u1.alloc (.cells #[.int .i64 (-1 - v), .slice none 0 0] 25) = u2 at D1 ⊢
      generalize u1.heap.size = bv at D1 ⊢
      refine (apply_any u HUS.out (vt v) (by simp [vt, T.size, T.sizes]) u2.heap.size au cu none 0 u2 (Nat.le_refl _) D1.out.now.2.2.2.2.1 VW.out ⟨by simp [vt, T.args], by simp [maxLen], .inl rfl⟩).mono ?_
      rintro e u3 ⟨a3, c3, rfl, _, hyA, hb⟩
      have D2 := Lib.hid (D1.out.pushT hb _ a3 c3 hyA)
      clear hb hyA D1
      have hcs : (appT u (vt v)).size ≤ 1000000000000 := appT_small
      generalize hq1 : appT u (vt v) = q1 at D2 hcs ⊢
      rw [E1.out]
      have HQ1 := Lib.hid hq1
      clear hq1
      obtain ⟨_, _, _, t1, t2, _⟩ := D2.out.now
      go_wp2_with fail
      clear t1 t2
      generalize u3.alloc (tmCells q1.head a3 q1.args.length c3) = u4 at D2 ⊢
      generalize u3.heap.size = bc at D2 ⊢
      refine (apply_any u HUS.out t (hss _ (List.mem_of_getElem? HSK.out)) u4.heap.size au cu at_ ct u4 (Nat.le_refl _) D2.out.now.2.2.2.2.2.2.1 HT.out D2.out.now.2.2.2.2.2.1).mono ?_
      rintro e u5 ⟨a4, c4, rfl, _, hyA, hb⟩
      have D3 := Lib.hid (D2.out.pushT hb _ a4 c4 hyA)
      clear hb hyA D2
      rw [E2.out, ← E3.out, HQ1.out] at *
      obtain ⟨⟨d0, d1⟩, _, ⟨c0, c1⟩, _⟩ := D3.out.now
      go_wp2_with fail
      clear d0 d1 c0 c1
      generalize u5.alloc (tmCells q1.head a4 q1.args.length c4) = u6 at D3 ⊢
      refine (sameAt_any q1 q1 rfl hcs u6.heap.size a3 c3 a4 c4 u6 (Nat.le_refl _) D3.out.now.2.2.2.1 D3.out.now.2.1).mono ?_
      rintro e u7 ⟨rfl, hb⟩
      have HF := Lib.hid (D3.out u7 hb).2.2.2.2.2.2.2.2.2
      clear hb D3
      go_wp2
      go_roundw
      case rel => exact ⟨k + 1, by omega, by go_num, HF.out⟩
      case measure => simp [intOf]; omega
    · obtain rfl : k = s.length := by omega
      go_wp2_with fail
      refine (awake4_any wr).mono ?_
      rintro e w9 ⟨rfl, hb⟩
      have HQ := Lib.hid (LF.out w9 (HB.out.trans (hb.mono hbz))).2.2
      clear hb
      go_wp2
      go_ret
      exact ⟨rfl, by rw [HB0.out]; exact HQ.out⟩

end Go.Proofs.Ytcbjnfdhghhgeaa

/- Proved: for all arguments that can be read, UnifyMost returns true, and the arguments read afterwards as before. No condition beyond the row's own. -/
namespace Go.Proofs.Ytcbjnfdhghhgeaa
open Go.ChangeShapes Go.WideShapes Go.ChangeAt Go.RowKit

set_option maxRecDepth 100000 in
theorem unifyMost_lifted (os : Os) (started : os.Started) (H : Type) (enc : TypeId × Value → H) :
    ReturnsInHanded {} Try.checked os 5 .any (Rows.unifyMostSpec.pre6 enc Try.prog Try.f5 Rows.unifyMostRow.domain false) (Rows.unifyMostSpec.post enc Try.prog Try.f5 false true false false) := by
  refine returnsInHanded_of_change (C := Try.checked) own started (by kernel_rfl) Try.func5
    (ChangeSpec.witness6 (enc := enc) (C := Try.checked) false ⟨#[], #[.agg #[.int .i64 0, .slice none 0 0], .agg #[.int .i64 0, .slice none 0 0], .slice none 0 0], []⟩ 8 (by kernel_rfl) (by kernel_rfl) (by kernel_rfl) (by kernel_rfl)) ?_
  intro W base args ds gs before hval hW _ _
  have hW' := hW
  obtain ⟨p, q, hA0, hV, rfl, _, _⟩ := hW
  have hA : DataW.TrodAll enc Try.prog W 0 (fun _ => true) true Try.f5.params.toList args.toList ds p := hA0
  have hval' : ∀ (j : Nat) t v, Try.f5.params[j]? = some t → args[j]? = some v → Value.okWide Try.prog W .any base t v := hval
  rw [Try.params5] at hA hval'
  obtain ⟨v0, v1, v2, d0, d1, d2, p0, p1, p2, rfl, rfl, rfl, h0, h1, h2⟩ := trodAll_three hA
  obtain ⟨x0, a0, c0, rfl, hw0, m0⟩ := open_term (hval' 0 _ v0 rfl rfl) h0
  obtain ⟨x1, a1, c1, rfl, hw1, m1⟩ := open_term (hval' 1 _ v1 rfl rfl) h1
  obtain ⟨x2, a2, c2, rfl, m2⟩ := open_bs (hval' 2 _ v2 rfl rfl) h2
  refine (unifyMost_walk x0 x1 x2 a0 c0 a1 c1 a2 c2 W hw0 hw1 m0 m1 m2).mono fun e W' ⟨he, hb⟩ => ?_
  subst he
  exact ⟨_, rfl, post_law laid Try.underlying4 (by kernel_rfl) rfl (of_decide_eq_true (by kernel_rfl)) (fun gs hg => by subst hg; rfl) hW' hb⟩

theorem unifyMost_holds : Rows.UnifyMostSaid :=
  OpenClaim.holds_of_wide 5 Try.f5 rfl rfl rfl rfl rfl rfl rfl ⟨rfl, rfl, rfl, rfl, rfl⟩ rfl rfl rfl rfl rfl (by kernel_rfl) Try.func5 (by kernel_rfl)
    (of_decide_eq_true (by kernel_rfl)) (by unfold Func.isWrapper; first | (rw [if_pos (by decide +kernel)]; kernel_rfl) | (rw [if_neg (by decide +kernel)]; exact ⟨rfl, rfl⟩))
    (fun os started H enc _ => unifyMost_lifted os started H enc)

end Go.Proofs.Ytcbjnfdhghhgeaa
