/- PUSh: joined of WUSh, PUSh. -/
import Derived.Test.YtcbjnfdhghhgeaaUsh
import Derived.Test.YtcbjnfdhghhgeaaWUSi
import Derived.Test.YtcbjnfdhghhgeaaQ1j
/- The walk of UnifyShifted. -/
namespace Go.Proofs.Ytcbjnfdhghhgeaa
set_option linter.unusedVariables false
set_option linter.unusedSimpArgs false
open Go.RowKit

theorem one_mem {b : Nat} {x : T} {a : Option Addr} {c : Nat} {X : World} (hx : Cs b [.int .i64 x.head, .slice a x.args.length c] X) (hxw : (Lit.int .i64 x.head).wf = true) (hA : IsArgs X.heap.size X x.args a c) : IsArgs X.heap.size X [x] (some ⟨b, 0, none⟩) 1 := by
  obtain ⟨hx, cx⟩ := hx
  exact ⟨by simp, by simp [maxLen], .inr ⟨b, 0, rfl, hx, isT_iff.2 ⟨hxw, cx 0 _ rfl, _, _, cx 1 _ rfl, hA⟩, trivial⟩⟩
theorem shfT_small {t : T} {y : Int} : (shfT t y).size ≤ 1000000000000 := by
  unfold shfT
  split
  · unfold endT
    split
    · rename_i h; exact Nat.le_trans (check_ok h).1 (by omega)
    · simp [Z0, T.size, T.sizes]
  · simp [Z0, T.size, T.sizes]
def ShI (own now : List Int) (f : Int) (w : World) (i : Value) (wr : World) : Prop := ∃ k : Nat, k ≤ own.length ∧ i = .int .i64 k ∧ (f = 0 → ∀ (j : Nat) (z : Int), j < k → own[j]? = some z → z ∉ now) ∧ Below w.heap.size w wr

set_option maxRecDepth 100000 in
set_option maxHeartbeats 8000000 in
theorem unifyShifted_walk (t : T) (y : Int) (a : Option Addr) (c : Nat) (w : World) (htw : (Lit.int .i64 t.head).wf = true) (hyw : (Lit.int .i64 y).wf = true) (hA : IsArgs w.heap.size w t.args a c) :
    Calls Try.prog 7 #[tm t.head a t.args.length c, .int .i64 y] w fun e w' => e = .returned (.bool true) ∧ Below w.heap.size w w' := by
  have HTW := Lib.hid htw
  have D := Lib.hid (((Later.below (Below.refl _ w)).and (later_args hA)).push (Below.refl _ _) t.head a t.args.length c)
  clear htw hA
  go_enter Try.func7, Try.ntmps7
  go_wp2_with fail
  have hsz : (w.alloc (.cells #[.int .i64 t.head, .slice a t.args.length c] 25)).heap.size = w.heap.size + 1 := by simp
  generalize (w.alloc (.cells #[.int .i64 t.head, .slice a t.args.length c] 25)) = wB at D hsz ⊢
  have d1 := D.out.pushC (Below.refl _ _) #[.int .i64 t.head, .slice a t.args.length c] 25
  rw [hsz] at d1
  have D1 := Lib.hid d1
  clear d1 hsz D
  generalize wB.alloc (.cells #[.int .i64 t.head, .slice a t.args.length c] 25) = w1 at D1 ⊢
  generalize hb0 : w.heap.size = b0 at D1 ⊢
  have HB0 := Lib.hid hb0
  clear hb0
  refine (few4_any [t] w1.heap.size _ 1 w1 (Nat.le_refl _) (one_mem D1.out.now.1 HTW.out D1.out.now.2.2.1)).mono ?_
  rintro e w2 ⟨f1, rfl, hfew, hb⟩
  have D2 := Lib.hid (D1.out.mv hb)
  clear hb D1
  cases f1
  case false =>
    have HQ := Lib.hid D2.out.now.2.2.2
    clear D2 hfew
    go_wp2
    go_ret
    exact ⟨rfl, by rw [HB0.out]; exact HQ.out⟩
  have hts : t.size ≤ 1000000000000 := Nat.le_trans (hfew rfl t (by simp)) (by omega)
  clear hfew
  obtain ⟨_, ⟨x0, x1⟩, _⟩ := D2.out.now
  go_wp2_with fail
  clear x0 x1
  refine (shift_any t hts y w2.heap.size a c w2 (Nat.le_refl _) HTW.out D2.out.now.2.2.1).mono ?_
  rintro e w3 ⟨a1, c1, rfl, huw, huA, hb⟩
  have D3 := Lib.hid (D2.out.pushT hb _ a1 c1 huA)
  have HUW := Lib.hid huw
  clear hb huA huw D2
  have hus : (shfT t y).size ≤ 1000000000000 := shfT_small
  generalize hu : shfT t y = u at D3 HUW hus ⊢
  generalize hf : shfE t y = f at ⊢
  have HU := Lib.hid hu
  have HF := Lib.hid hf
  clear hu hf
  obtain ⟨_, _, _, ⟨x0, x1⟩, _⟩ := D3.out.now
  go_wp2_with fail
  clear x0 x1
  generalize w3.alloc (tmCells u.head a1 u.args.length c1) = w4 at D3 ⊢
  generalize w3.heap.size = b3 at D3 ⊢
  refine (refVars_any t.size t (Nat.le_refl _) hts w4.heap.size a c w4 (Nat.le_refl _) HTW.out D3.out.now.2.2.2.2.1).mono ?_
  rintro e w5 ⟨ao, co, rfl, hoI, _, hb⟩
  have D4 := Lib.hid ((D3.out.mv hb).and (later_is hoI))
  clear hb hoI D3
  obtain ⟨own, hown⟩ : ∃ own, vars1 t = own := ⟨_, rfl⟩
  rw [T.rv_eq, show varsOf (T.subs 1 t) = own from hown] at D4 ⊢
  have HOWN := Lib.hid hown
  clear hown
  obtain ⟨now, hnow⟩ : ∃ now, vars1 u = now := ⟨_, rfl⟩
  have HNOW := Lib.hid hnow
  clear hnow
  have LF := Lib.hid (show ∀ X, Below w5.heap.size w5 X → IsIs w5.heap.size X own ao co ∧ Vc b3 u.head a1 u.args.length c1 X ∧ IsArgs X.heap.size X u.args a1 c1 ∧ Vc b0 t.head a t.args.length c X ∧ IsArgs X.heap.size X t.args a c ∧ Below b0 w X from fun X hX => by
    have h1 := D4.out X hX
    have h2 := D4.out.now
    exact ⟨h2.1.below hX, h1.2.1, h1.2.2.1, h1.2.2.2.2.1, h1.2.2.2.2.2.1, h1.2.2.2.2.2.2⟩)
  have hl : own.length ≤ co ∧ co ≤ maxLen := ⟨D4.out.now.1.1, D4.out.now.1.2.1⟩
  unfold maxLen at hl
  obtain ⟨hl1, hl2⟩ := hl
  clear D4
  go_wp2
  go_loopw [8] (fun i wr => ShI own now f w5 i wr) (fun i _ => own.length - (intOf i).toNat)
  case atStart => exact ⟨0, Nat.zero_le _, rfl, fun _ j z h => by omega, Below.refl _ _⟩
  case round =>
    obtain ⟨k, hk, rfl, hdis, hB⟩ := hrel
    have HB := Lib.hid hB
    have HD := Lib.hid hdis
    have hbz := hB.size
    clear hB hdis
    by_cases hlt : k < own.length
    · have hk0 : (0 : Int) ≤ (k : Int) := Int.natCast_nonneg _
      have hk1 : (k : Int) < (own.length : Int) := by omega
      obtain ⟨b, o, z, rfl, hbn, hz, hc0⟩ := (LF.out wr HB.out).1.elem hlt
      have HZ := Lib.hid hz
      clear hz
      have KP := Lib.hid (show ∀ W, Below wr.heap.size wr W → W.cell? ⟨b, o + k, none⟩ = some (.int .i64 z) ∧ W.cell? ⟨b3, 0, none⟩ = some (.int .i64 u.head) ∧ W.cell? ⟨b3, 1, none⟩ = some (.slice a1 u.args.length c1) ∧ Below wr.heap.size wr W from fun W hW => by
        have hb : b < wr.heap.size := Nat.lt_of_lt_of_le hbn hbz
        obtain ⟨_, ⟨h1, h2⟩, _⟩ := LF.out W (HB.out.trans (hW.mono hbz))
        exact ⟨(hW.cell hb).trans hc0, h1, h2, hW⟩)
      clear hc0
      obtain ⟨k0, k1, k2, _⟩ := KP.out wr (Below.refl _ _)
      by_cases qf : f = 0
      case neg =>
        have hne : (f == 0) = false := by simpa using qf
        go_wp2
        go_cut [42] from 32 to 42 (fun v42 wx => v42 = .bool false ∧ Below wr.heap.size wr wx)
        case first =>
          clear KP k0 k1 k2
          refine wp_region_wq (by kernel_rfl) (by kernel_rfl) ?_
          repeat (first
            | (refine WQ.skip (by rfl) ?_; simp only [Act.put, List.setIfInBounds_toArray, List.set_cons_succ, List.set_cons_zero])
            | (apply WQ.two (by rfl); (intro w' hw'; obtain ⟨pq, rfl⟩ := hw'; go_simp; exact rfl); simp only [Act.put, List.setIfInBounds_toArray, List.set_cons_succ, List.set_cons_zero]))
          refine WQ.nil ?_
          intro _ hw'
          obtain ⟨⟨dq, osq⟩, hw''⟩ := hw'
          subst hw''
          go_wp2
          go_meet
          exact ⟨by simp, below_regrown wr dq osq⟩
        case rest =>
          obtain ⟨rfl, hbx⟩ := hcut
          have HBX := Lib.hid (HB.out.trans (hbx.mono HB.out.size))
          clear hbx KP k0 k1 k2
          have HQF := Lib.hid qf
          clear qf
          go_wp2
          go_roundw
          case rel => exact ⟨k + 1, by omega, by go_num, fun h0 => absurd h0 HQF.out, HBX.out⟩
          case measure => simp [intOf]; omega
      subst qf
      have VC := Lib.hid (show ∀ W, Below wr.heap.size wr W → Calls Try.prog 30 #[tm u.head a1 u.args.length c1] W (RvPost now W) from fun W hW => by
        have h := refVars_any u.size u (Nat.le_refl _) hus W.heap.size a1 c1 W (Nat.le_refl _) HUW.out (LF.out W (HB.out.trans (hW.mono hbz))).2.2.1
        rw [T.rv_eq, show varsOf (T.subs 1 u) = now from HNOW.out] at h
        exact h)
      go_wp2_with fail
      go_cut [42] from 32 to 42 (fun v42 wx => v42 = .bool (decide (z ∈ now)) ∧ Below wr.heap.size wr wx)
      case first =>
        refine wp_region_noPanic ?_
        go_region_held3 (fun w' => w'.cell? ⟨b, o + k, none⟩ = some (.int .i64 z) ∧ w'.cell? ⟨b3, 0, none⟩ = some (.int .i64 u.head) ∧ w'.cell? ⟨b3, 1, none⟩ = some (.slice a1 u.args.length c1) ∧ Below wr.heap.size wr w')
          (first
            | exact KP.out _ (Below.refl _ _)
            | exact KP.out _ (Below.refl _ _).drew
            | exact KP.out _ hB)
          (first
            | (go_at_call 30; refine (VC.out _ (‹_ ∧ _ ∧ _ ∧ Below wr.heap.size wr _›.2.2.2)).mono ?_; rintro e u1 ⟨an, cn, rfl, hoI, _, hu⟩; have hB := bl_call (‹_ ∧ _ ∧ _ ∧ Below wr.heap.size wr _›.2.2.2) hu)
            | (go_at_call 27; refine (in_any z now u1.heap.size an cn u1 (Nat.le_refl _) hoI).mono ?_; rintro e u2 ⟨rfl, hu⟩; have hB := bl_call (‹_ ∧ _ ∧ _ ∧ Below wr.heap.size wr _›.2.2.2) hu; have hfin := hB))
        all_goals
          refine NoPanic.normal ?_
          go_wp2_with fail
          go_meet
          exact ⟨rfl, hfin⟩
      case rest =>
        obtain ⟨rfl, hb⟩ := hcut
        have HB3 := Lib.hid (HB.out.trans (hb.mono hbz))
        clear hb KP k0 k1 k2 VC
        by_cases hin : z ∈ now
        · rw [decide_eq_true hin]
          go_wp2_with fail
          refine (awake4_any wc).mono ?_
          rintro e w6 ⟨rfl, hb⟩
          have HQ := Lib.hid (LF.out w6 (HB3.out.trans (hb.mono HB3.out.size))).2.2.2.2.2
          clear hb
          go_wp2
          go_ret
          exact ⟨rfl, by rw [HB0.out]; exact HQ.out⟩
        · rw [decide_eq_false hin]
          have HIN := Lib.hid hin
          clear hin
          go_wp2
          go_roundw
          case rel =>
            refine ⟨k + 1, by omega, by go_num, fun h0 j z' hj hz' => ?_, HB3.out⟩
            by_cases e : j = k
            · subst e
              rw [HZ.out] at hz'
              cases hz'
              exact HIN.out
            · exact HD.out trivial j z' (by omega) hz'
          case measure => simp [intOf]; omega
    · obtain rfl : k = own.length := by omega
      by_cases qf : f = 0
      case neg =>
        have hne : (f == 0) = false := by simpa using qf
        go_wp2_with fail
        refine (awake4_any wr).mono ?_
        rintro e w6 ⟨rfl, hb⟩
        have HQ := Lib.hid (LF.out w6 (HB.out.trans (hb.mono hbz))).2.2.2.2.2
        clear hb
        go_wp2
        go_ret
        exact ⟨rfl, by rw [HB0.out]; exact HQ.out⟩
      subst qf
      have KEY := Lib.hid (fun (s : Sb) (b : Bool) (k : Int) (hR : MguR t u s b k) => shifted_key (t := t) (y := y) HF.out (fun v hv => by
        rw [HOWN.out] at hv
        obtain ⟨j, hj⟩ := List.getElem?_of_mem hv
        have := HD.out rfl j v (List.getElem?_eq_some_iff.1 hj).1 hj
        rw [HU.out, HNOW.out]
        exact this) (s := s) (b := b) (k := k) (by rw [HU.out]; exact hR))
      rw [HOWN.out] at KEY
      obtain ⟨_, ⟨u0, u1⟩, _, ⟨x0, x1⟩, _⟩ := LF.out wr HB.out
      go_wp2_with fail
      clear u0 u1 x0 x1
      refine (mgu_full t u hts hus wr.heap.size a c a1 c1 wr (Nat.le_refl _) HTW.out HUW.out (LF.out wr HB.out).2.2.2.2.1 (LF.out wr HB.out).2.2.1).mono ?_
      rintro e w6 ⟨w5', hbb, h6⟩
      obtain ⟨s, b1, k1, as1, cs1, rfl, hS, hb, hR1⟩ := mgu_key h6
      obtain ⟨rfl, rfl, hsl, hss, hat, hae⟩ := KEY.out s b1 k1 hR1
      have HB6 := Lib.hid (HB.out.trans ((hbb.trans (hb.mono hbb.size)).mono hbz))
      have HS := Lib.hid hS
      have HSS := Lib.hid hss
      have HSL := Lib.hid hsl
      have HAT := Lib.hid hat
      have HAE := Lib.hid hae
      clear h6 hS hb hbb hR1 KEY hss hsl hat hae
      obtain ⟨_, ⟨u0, u1⟩, _, ⟨x0, x1⟩, _⟩ := LF.out w6 HB6.out
      go_wp2_with fail
      clear u0 u1 x0 x1
      refine (apply_any s HSS.out t hts w6.heap.size as1 cs1 a c w6 (Nat.le_refl _) HS.out HTW.out (LF.out w6 HB6.out).2.2.2.2.1).mono ?_
      rw [HAT.out, HAE.out]
      rintro e w7 ⟨a2, c2, rfl, _, hxA, hb⟩
      have LG := Lib.hid (((show Later (fun X => Vc b0 t.head a t.args.length c X ∧ IsArgs X.heap.size X t.args a c ∧ Below b0 w X) w6 from fun X hX => by
        have h := LF.out X (HB6.out.trans (hX.mono HB6.out.size))
        exact h.2.2.2)).pushT hb _ a2 c2 hxA)
      clear hb hxA
      have hseq : ((List.length s : Int) == (own.length : Int)) = true := by have := HSL.out; rw [beq_iff_eq]; exact congrArg Int.ofNat this
      go_wp2_with fail
      generalize w7.alloc (.cells #[.int .i64 t.head, .slice a2 t.args.length c2] 25) = w8 at LG ⊢
      generalize w7.heap.size = b7 at LG ⊢
      have KP := Lib.hid (show ∀ W, Below w8.heap.size w8 W → W.cell? ⟨b7, 0, none⟩ = some (.int .i64 t.head) ∧ W.cell? ⟨b7, 1, none⟩ = some (.slice a2 t.args.length c2) ∧ W.cell? ⟨b0, 0, none⟩ = some (.int .i64 t.head) ∧ W.cell? ⟨b0, 1, none⟩ = some (.slice a t.args.length c) ∧ Below w8.heap.size w8 W from fun W hW => by
        obtain ⟨⟨h1, h2⟩, _, ⟨h3, h4⟩, _⟩ := LG.out W hW
        exact ⟨h1, h2, h3, h4, hW⟩)
      obtain ⟨k0, k1, k2, k3, _⟩ := KP.out w8 (Below.refl _ _)
      have S1 := Lib.hid (show ∀ W, Below w8.heap.size w8 W → Calls Try.prog 31 #[tm t.head a2 t.args.length c2] W fun e w' => e = .returned (.int .i64 (t.size : Nat)) ∧ Below W.heap.size W w' from fun W hW => refSize_any t.size t (Nat.le_refl _) hts W.heap.size a2 c2 W (Nat.le_refl _) (LG.out W hW).2.1)
      have S2 := Lib.hid (show ∀ W, Below w8.heap.size w8 W → Calls Try.prog 31 #[tm t.head a t.args.length c] W fun e w' => e = .returned (.int .i64 (t.size : Nat)) ∧ Below W.heap.size W w' from fun W hW => refSize_any t.size t (Nat.le_refl _) hts W.heap.size a c W (Nat.le_refl _) (LG.out W hW).2.2.2.1)
      refine wp_region_noPanic ?_
      go_region_held3 (fun w' => w'.cell? ⟨b7, 0, none⟩ = some (.int .i64 t.head) ∧ w'.cell? ⟨b7, 1, none⟩ = some (.slice a2 t.args.length c2) ∧ w'.cell? ⟨b0, 0, none⟩ = some (.int .i64 t.head) ∧ w'.cell? ⟨b0, 1, none⟩ = some (.slice a t.args.length c) ∧ Below w8.heap.size w8 w')
        (first
          | exact KP.out _ (Below.refl _ _)
          | exact KP.out _ (Below.refl _ _).drew
          | exact KP.out _ hB)
        (first
          | (go_at_call 24; refine (awake4_any _).mono ?_; rintro e u1 ⟨rfl, hu⟩; have hB := bl_call (‹_ ∧ _ ∧ _ ∧ _ ∧ Below w8.heap.size w8 _›.2.2.2.2) hu)
          | (go_at_call 31; with_reducible refine (S1.out _ (‹_ ∧ _ ∧ _ ∧ _ ∧ Below w8.heap.size w8 _›.2.2.2.2)).mono ?_; rintro e u1 ⟨rfl, hu⟩; have hB := bl_call (‹_ ∧ _ ∧ _ ∧ _ ∧ Below w8.heap.size w8 _›.2.2.2.2) hu)
          | (go_at_call 31; with_reducible refine (S2.out _ (‹_ ∧ _ ∧ _ ∧ _ ∧ Below w8.heap.size w8 _›.2.2.2.2)).mono ?_; rintro e u1 ⟨rfl, hu⟩; have hB := bl_call (‹_ ∧ _ ∧ _ ∧ _ ∧ Below w8.heap.size w8 _›.2.2.2.2) hu))
      all_goals
        refine NoPanic.normal ?_
        have HQ := Lib.hid (LG.out _ (‹_ ∧ _ ∧ _ ∧ _ ∧ Below w8.heap.size w8 _›.2.2.2.2)).2.2.2.2
        go_wp2_with fail
        go_ret
        exact ⟨by simp, by rw [HB0.out]; exact HQ.out⟩

end Go.Proofs.Ytcbjnfdhghhgeaa

/- Proved: for all arguments that can be read, UnifyShifted returns true, and the arguments read afterwards as before. No condition beyond the row's own. -/
namespace Go.Proofs.Ytcbjnfdhghhgeaa
open Go.ChangeShapes Go.WideShapes Go.ChangeAt Go.RowKit

set_option maxRecDepth 100000 in
theorem unifyShifted_lifted (os : Os) (started : os.Started) (H : Type) (enc : TypeId × Value → H) :
    ReturnsInHanded {} Try.checked os 7 .any (Rows.unifyShiftedSpec.pre6 enc Try.prog Try.f7 Rows.unifyShiftedRow.domain false) (Rows.unifyShiftedSpec.post enc Try.prog Try.f7 false true false false) := by
  refine returnsInHanded_of_change (C := Try.checked) own started (by kernel_rfl) Try.func7
    (ChangeSpec.witness6 (enc := enc) (C := Try.checked) false ⟨#[], #[.agg #[.int .i64 0, .slice none 0 0], .int .i64 0], []⟩ 8 (by kernel_rfl) (by kernel_rfl) (by kernel_rfl) (by kernel_rfl)) ?_
  intro W base args ds gs before hval hW _ _
  have hW' := hW
  obtain ⟨p, q, hA0, hV, rfl, _, _⟩ := hW
  have hA : DataW.TrodAll enc Try.prog W 0 (fun _ => true) true Try.f7.params.toList args.toList ds p := hA0
  have hval' : ∀ (j : Nat) t v, Try.f7.params[j]? = some t → args[j]? = some v → Value.okWide Try.prog W .any base t v := hval
  rw [Try.params7] at hA hval'
  obtain ⟨v0, v1, d0, d1, p0, p1, rfl, rfl, rfl, h0, h1⟩ := trodAll_two hA
  obtain ⟨x0, a0, c0, rfl, hw0, m0⟩ := open_term (hval' 0 _ v0 rfl rfl) h0
  obtain ⟨x1, rfl, rfl, rfl, hw1⟩ := open_int Try.underlying3 (hval' 1 _ v1 rfl rfl) h1
  refine (unifyShifted_walk x0 x1 a0 c0 W hw0 hw1 m0).mono fun e W' ⟨he, hb⟩ => ?_
  subst he
  exact ⟨_, rfl, post_law laid Try.underlying4 (by kernel_rfl) rfl (of_decide_eq_true (by kernel_rfl)) (fun gs hg => by subst hg; rfl) hW' hb⟩

theorem unifyShifted_holds : Rows.UnifyShiftedSaid :=
  OpenClaim.holds_of_wide 7 Try.f7 rfl rfl rfl rfl rfl rfl rfl ⟨rfl, rfl, rfl, rfl, rfl⟩ rfl rfl rfl rfl rfl (by kernel_rfl) Try.func7 (by kernel_rfl)
    (of_decide_eq_true (by kernel_rfl)) (by unfold Func.isWrapper; first | (rw [if_pos (by decide +kernel)]; kernel_rfl) | (rw [if_neg (by decide +kernel)]; exact ⟨rfl, rfl⟩))
    (fun os started H enc _ => unifyShifted_lifted os started H enc)

end Go.Proofs.Ytcbjnfdhghhgeaa
