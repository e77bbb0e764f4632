/- QDj: joined of At10, Nr0, Va1, Nr1, No5. -/
import Derived.Test.YtbdabdjpgmnejaaGreatQDh
import Derived.Test.YtbdabdjpgmnejaaGreatQDi
import Derived.Test.YtbdabdjpgmnejaaGreatQDb
import Derived.Test.YtbdabdjpgmnejaaGreatQBn
/- Contract of the document's Apart of clauses. -/
namespace Go.Proofs.YtbdabdjpgmnejaaGreat
set_option linter.unusedVariables false
set_option linter.unusedSimpArgs false
open Go.RowKit

/-- One more than the greatest number; 0: none. -/
def byV (V : List Int) : Int := V.foldl (fun m v => max m (v + 1)) 0
theorem byV_snoc {V : List Int} {k : Nat} {v : Int} (h : V[k]? = some v) : byV (V.take (k + 1)) = max (byV (V.take k)) (v + 1) := by
  unfold byV
  rw [List.take_add_one, h, List.foldl_append]; rfl
theorem byV_range {V : List Int} (h : ∀ v ∈ V, 0 ≤ v ∧ v ≤ 255) : ∀ k, 0 ≤ byV (V.take k) ∧ byV (V.take k) ≤ 256 := by
  intro k
  induction k with
  | zero => simp [byV]
  | succ k ih =>
    cases hv : V[k]? with
    | none =>
      rw [List.getElem?_eq_none_iff] at hv
      rw [List.take_of_length_le (by omega)]
      rwa [List.take_of_length_le hv] at ih
    | some v =>
      rw [byV_snoc hv]
      have := h v (List.mem_of_getElem? hv)
      omega
def byC (c : List Lt3) : Int := byV (T.rvs [] (sidesC c))
def manyC (c d : List Lt3) : Bool := decide (255 < byC c) && decide (0 < (T.rvs [] (sidesC d)).length)
def badS (y : Int) (m : Bool) (x : Lt3) : Bool := m || decide (shfE x.l y ≠ 0) || decide (shfE x.r y ≠ 0)
def shfL (y : Int) (x : Lt3) : Lt3 := ⟨x.neg, shfT x.l y, shfT x.r y⟩
def apaE (c d : List Lt3) : Int := if nmE d ≠ 0 then 1 else if badL (sidesC c) then 1 else if (nmL d).any (badS (min (byC c) 255) (manyC c (nmL d))) then 1 else 0
def apaL (c d : List Lt3) : List Lt3 := if apaE c d = 0 then (nmL d).map (shfL (min (byC c) 255)) else []
theorem anyL_snoc' {x : List LV} {k : Nat} {t : LV} (h : x[k]? = some t) {f : Lt3 → Bool} : (t3s (x.take (k + 1))).any f = ((t3s (x.take k)).any f || f t.t3) := by
  rw [List.take_add_one, h]; simp
theorem shf_snoc {y : Int} {Q O : List LV} {k : Nat} {x z : LV} (h : Q[k]? = some x) (ho : t3s O = (t3s (Q.take k)).map (shfL y)) (hz : z.t3 = shfL y x.t3) : t3s (O ++ [z]) = (t3s (Q.take (k + 1))).map (shfL y) := by
  rw [List.take_add_one, h]
  simp only [t3s, List.map_append, Option.toList, List.map_cons, List.map_nil] at *
  rw [ho, hz]
def ByI (V : List Int) (w1 : World) (b i : Value) (wr : World) : Prop := ∃ k : Nat, k ≤ V.length ∧ i = .int .i64 k ∧ b = .int .i64 (byV (V.take k)) ∧ Below w1.heap.size w1 wr
def ApaI (y : Int) (m : Bool) (Q : List LV) (w5 : World) (ov i : Value) (wr : World) : Prop := ∃ (k : Nat) (O : List LV), k ≤ Q.length ∧ i = .int .i64 k ∧ O.length = k ∧ t3s O = (t3s (Q.take k)).map (shfL y) ∧ (t3s (Q.take k)).any (badS y m) = false ∧ OL (okD ov wr) w5.heap.size ov O wr ∧ Below w5.heap.size w5 wr

set_option maxRecDepth 100000 in
set_option maxHeartbeats 8000000 in
theorem apart10_any (A B : List LV) (hla : A.length ≤ 1000000) (hlb : B.length ≤ 1000000) (hsa : T.sizes (sidesC (t3s A)) ≤ 100000) (hsb : T.sizes (sidesC (t3s B)) ≤ 100000) (hsn : T.sizes (sidesC (nmL (t3s B))) ≤ 100000) (n₀ : Nat) (pa : Option Addr) (ca : Nat) (pb : Option Addr) (cb : Nat) (w : World) (hn : n₀ ≤ w.heap.size) (hA : IsCl n₀ w A pa ca) (hB : IsCl n₀ w B pb cb) :
    Calls Tryz.prog 10 #[.slice pa A.length ca, .slice pb B.length cb] w (ClEPost (apaL (t3s A) (t3s B)) (apaE (t3s A) (t3s B)) w) := by
  have HA := Lib.hid (hA.mono hn)
  have HB := Lib.hid (hB.mono hn)
  have HSS := Lib.hid (sides_sz hsa)
  clear hA hB
  go_enter Tryz.func10, Tryz.ntmps10
  go_wp2_with fail
  refine (norm10_any B hlb hsb w.heap.size pb cb w (Nat.le_refl _) HB.out).mono ?_
  rintro e w2 ⟨Q, p2, c2, hQ, rfl, hQc, hb2⟩
  have HQ := Lib.hid hQ
  have HQC := Lib.hid hQc
  have HB2 := Lib.hid hb2
  have hz2 := hb2.size
  clear hQ hQc hb2
  by_cases h1 : nmE (t3s B) = 0
  case neg =>
    have HE := Lib.hid (show apaE (t3s A) (t3s B) = 1 from by unfold apaE; rw [if_pos h1])
    have HEL := Lib.hid (show apaL (t3s A) (t3s B) = [] from by unfold apaL; rw [HE.out]; rfl)
    obtain ⟨k, hk⟩ : ∃ k, nmE (t3s B) = k := ⟨_, rfl⟩
    rw [hk] at h1 ⊢
    have h2 : (k != 0) = true := by simpa using h1
    clear h1 hk
    go_wp2
    refine bodyPost_ret (v := .tuple #[.slice none 0 0, .int .i64 1]) (by simp [results, Tryz.results10, go_sem]) rfl ?_
    exact ⟨[], none, 0, HEL.out.symm, by rw [HE.out]; rfl, IsCl.nil _ _ _ (by simp [maxLen]), HB2.out⟩
  have H1 := Lib.hid h1
  rw [h1]
  clear h1
  go_wp2_with fail
  refine (terms10_any A hla w.heap.size pa ca w2 hz2 (HA.out.below HB2.out)).mono ?_
  rintro e w3 ⟨p3, c3, rfl, hA3, hb3⟩
  have HA3 := Lib.hid hA3
  have HB3 := Lib.hid (HB2.out.trans (hb3.mono hz2))
  have HW3 := Lib.hid hb3
  clear hA3 hb3
  go_wp2_with fail
  refine (refAllR_any (sidesC (t3s A)) (fun t ht => by have := HSS.out.2 t ht; omega) w3.heap.size p3 c3 w3 (Nat.le_refl _) HA3.out).mono ?_
  rintro e w4 ⟨rfl, hb4⟩
  have HB4 := Lib.hid (HB3.out.trans (hb4.mono HB3.out.size))
  have HW4 := Lib.hid (HW3.out.trans (hb4.mono HW3.out.size))
  clear hb4 HA3
  cases hbad : badL (sidesC (t3s A)) with
  | true =>
    have HE := Lib.hid (show apaE (t3s A) (t3s B) = 1 from by unfold apaE; rw [if_neg (fun e => e H1.out), hbad]; rfl)
    have HEL := Lib.hid (show apaL (t3s A) (t3s B) = [] from by unfold apaL; rw [HE.out]; rfl)
    clear hbad
    go_wp2
    refine bodyPost_ret (v := .tuple #[.slice none 0 0, .int .i64 1]) (by simp [results, Tryz.results10, go_sem]) rfl ?_
    exact ⟨[], none, 0, HEL.out.symm, by rw [HE.out]; rfl, IsCl.nil _ _ _ (by simp [maxLen]), HB4.out⟩
  | false =>
    have HE := Lib.hid (show apaE (t3s A) (t3s B) = if (t3s Q).any (badS (min (byC (t3s A)) 255) (manyC (t3s A) (t3s Q))) then 1 else 0 from by unfold apaE; rw [if_neg (fun e => e H1.out), hbad, HQ.out]; rfl)
    have hlow : ∀ v ∈ T.rvs [] (sidesC (t3s A)), 0 ≤ v ∧ v ≤ 255 := fun v hv => rvs_low hbad hv
    have HLOW := Lib.hid hlow
    clear hbad hlow
    go_wp2_with fail
    refine (vars10_any A hla hsa w.heap.size pa ca w4 HB4.out.size (HA.out.below HB4.out)).mono ?_
    rintro e w5 ⟨p5, c5, rfl, hV, _, hb5⟩
    have HV := Lib.hid hV
    have HB5 := Lib.hid (HB4.out.trans (hb5.mono HB4.out.size))
    have HW5 := Lib.hid (HW4.out.trans (hb5.mono HW4.out.size))
    have hlv : (T.rvs [] (sidesC (t3s A))).length ≤ c5 ∧ c5 ≤ maxLen := ⟨hV.1, hV.2.1⟩
    unfold maxLen at hlv
    obtain ⟨hv1, hv2⟩ := hlv
    clear hV hb5
    have HBY := Lib.hid (show byC (t3s A) = byV (T.rvs [] (sidesC (t3s A))) from rfl)
    generalize T.rvs [] (sidesC (t3s A)) = V at HV HBY HLOW hv1 ⊢
    go_wp2
    go_loopw [8, 10] (fun b i wr => ByI V w5 b i wr) (fun _ i _ => V.length - (intOf i).toNat)
    case atStart => exact ⟨0, Nat.zero_le _, rfl, rfl, Below.refl _ _⟩
    case round =>
      obtain ⟨k, hk, rfl, rfl, hB⟩ := hrel
      have HBB := Lib.hid hB
      have hbz := hB.size
      clear hB
      have hr := byV_range HLOW.out k
      by_cases hlt : k < V.length
      · obtain ⟨vb, vo, v, rfl, hvb, hv, hcv⟩ := (HV.out.below HBB.out).elem (k := k) hlt
        have hk0 : (0 : Int) ≤ (k : Int) := Int.natCast_nonneg _
        have hk1 : (k : Int) < (V.length : Int) := by omega
        have hvr := HLOW.out v (List.mem_of_getElem? hv)
        have HSN := Lib.hid (byV_snoc hv)
        obtain ⟨hvr1, hvr2⟩ := hvr
        obtain ⟨hr1, hr2⟩ := hr
        generalize byV (V.take k) = m at hr1 hr2 HSN ⊢
        clear hv
        go_wp2
        go_roundw
        case rel => exact ⟨k + 1, by omega, by go_num, by rw [HSN.out], HBB.out⟩
        case measure => simp [intOf]; omega
      · obtain rfl : k = V.length := by omega
        rw [List.take_length] at hr ⊢
        rw [← HBY.out] at hr ⊢
        obtain ⟨hr1, hr2⟩ := hr
        have HMB := Lib.hid (show manyC (t3s A) (t3s Q) = (decide (255 < byC (t3s A)) && decide (0 < (T.rvs [] (sidesC (t3s Q))).length)) from rfl)
        obtain ⟨y, hye⟩ : ∃ y, byC (t3s A) = y := ⟨_, rfl⟩
        have HYE := Lib.hid hye
        rw [hye] at hr1 hr2 HE HMB ⊢
        clear hye
        generalize manyC (t3s A) (t3s Q) = mb at HE HMB
        obtain ⟨ym, hym⟩ : ∃ ym, min y 255 = ym := ⟨_, rfl⟩
        have hym0 : 0 ≤ ym ∧ ym ≤ 255 := by omega
        obtain ⟨hy0, hy1⟩ := hym0
        rw [hym] at HE
        have HYM := Lib.hid hym
        have HYY := Lib.hid (show min (byC (t3s A)) 255 = ym from by rw [HYE.out]; exact hym)
        have hq : T.sizes (sidesC (t3s Q)) ≤ 100000 := by rw [HQ.out]; exact hsn
        have HQS := Lib.hid (sides_sz hq)
        have HQZ := Lib.hid hq
        have hlq : Q.length ≤ c2 ∧ c2 ≤ maxLen := ⟨HQC.out.1, HQC.out.2.1⟩
        unfold maxLen at hlq
        obtain ⟨hq1, hq2⟩ := hlq
        have hq3 : Q.length ≤ 100000 := by
          have := T.sizes_ge_length (sidesC (t3s Q))
          rw [sidesC_length] at this
          simp at this; omega
        obtain ⟨i0, hi, hz0, hz1, hz2'⟩ := info_parts infoLit
        obtain ⟨w6, rfl⟩ : ∃ w6, w6 = wr := ⟨_, rfl⟩
        have HW6 := Lib.hid (HW5.out.trans (HBB.out.mono HW5.out.size))
        have HB6 := Lib.hid (HB5.out.trans (HBB.out.mono HB5.out.size))
        have HQ6 := Lib.hid ((HQC.out.below HW6.out).mono HW6.out.size)
        clear hym hq
        go_wp2
        go_loopw [11, 12] (fun ov i wr => ApaI ym mb Q w6 ov i wr) (fun _ i _ => Q.length - (intOf i).toNat)
        case atStart => exact ⟨0, [], Nat.zero_le _, rfl, rfl, rfl, rfl, OL.nil _ _ _, Below.refl _ _⟩
        case round =>
          obtain ⟨k, O, hk, rfl, hol, hot, hnb, hO, hB⟩ := hrel
          have HO := Lib.hid hO
          have HBL := Lib.hid hB
          have hbz7 := hB.size
          have HOT := Lib.hid hot
          have HOL := Lib.hid hol
          have HNB := Lib.hid hnb
          clear hO hB hot hnb
          by_cases hlt : k < Q.length
          · obtain ⟨b, o, x, rfl, hb, hx, ⟨a0, a1, a2, a3, a4⟩, hxl⟩ := (HQ6.out.below HBL.out).elem (i := k) hlt
            have hxs := HQS.out.1 x (List.mem_of_getElem? hx)
            have HX := Lib.hid (And.intro hx hxl)
            have hk0 : (0 : Int) ≤ (k : Int) := Int.natCast_nonneg _
            have hk1 : (k : Int) < (Q.length : Int) := by omega
            have hbw : b < wr.heap.size := by omega
            have HA5 := Lib.hid (show At5 wr b (o + k * 5) x from ⟨a0, a1, a2, a3, a4⟩)
            have HANY := Lib.hid (show badS ym mb x.t3 = true → ((t3s Q).any (badS ym mb)) = true from fun h => List.any_eq_true.2 ⟨x.t3, List.mem_of_getElem? (t3s_get hx), h⟩)
            have HSTP := Lib.hid (show badS ym mb x.t3 = false → (t3s (Q.take (k + 1))).any (badS ym mb) = false from fun h => by rw [anyL_snoc' hx, HNB.out, h]; rfl)
            have HBS := Lib.hid (show badS ym mb x.t3 = (mb || decide (shfE x.l ym ≠ 0) || decide (shfE x.r ym ≠ 0)) from rfl)
            have CL := Lib.hid (fun (W : World) (hW : Below wr.heap.size wr W) => refShiftF_any x.l (by omega) ym w6.heap.size x.pa x.ca W (Nat.le_trans hbz7 hW.size) hxl.lw (hxl.below (hW.mono hbz7)).la)
            have CR := Lib.hid (fun (W : World) (hW : Below wr.heap.size wr W) => refShiftF_any x.r (by omega) ym w6.heap.size x.pb x.cb W (Nat.le_trans hbz7 hW.size) hxl.rw (hxl.below (hW.mono hbz7)).ra)
            have HT := Lib.hid (show ∀ z : LV, z.n = x.n → z.l = shfT x.l ym → z.r = shfT x.r ym → z.t3 = shfL ym x.t3 from fun z h1 h2 h3 => by simp only [LV.t3, shfL, h1, h2, h3])
            clear hx hxl
            have hmin : min y 255 = ym := HYM.out
            go_wp2_with fail
            clear a0 a1 a2 a3 a4
            refine (CL.out wr (Below.refl _ _)).mono ?_
            rintro e u1 ⟨aL, cL, rfl, hwL, hIL, hb1⟩
            generalize shfT x.l ym = y1 at hwL hIL HT ⊢
            obtain ⟨u2, hu2⟩ : ∃ u2, u1.alloc (tmCells y1.head aL y1.args.length cL) = u2 := ⟨_, rfl⟩
            have hb2 : Below u1.heap.size u1 u2 := by rw [← hu2]; exact (Below.refl _ _).alloc (Nat.le_refl _) _
            have V1 := Lib.hid (show Later (Vc u1.heap.size y1.head aL y1.args.length cL) u2 from by rw [← hu2]; exact later_var u1 _ _ _ _)
            have hbz1 := hb1.size
            have hB2 : Below wr.heap.size wr u2 := hb1.trans (hb2.mono hb1.size)
            have HBU2 := Lib.hid hB2
            have hbz2 := hb2.size
            have HIL := Lib.hid (hIL.keep (ok' := fun b => (b < w6.heap.size ∨ wr.heap.size ≤ b) ∧ b < u2.heap.size) (fun b hb => hb2.block b hb.2) (fun b hb => ⟨hb.1, by omega⟩))
            obtain ⟨a0, a1, a2, a3, a4⟩ := HA5.out.keep (fun i => hB2.cell (p := ⟨b, i, none⟩) hbw)
            clear hIL hb1 hb2 hB2
            go_wp2_with fail
            clear a0 a1 a2 a3 a4 hu2
            refine (CR.out u2 HBU2.out).mono ?_
            rintro e u3 ⟨aR, cR, rfl, hwR, hIR, hb3⟩
            generalize shfT x.r ym = y2 at hwR hIR HT ⊢
            obtain ⟨u4, hu4⟩ : ∃ u4, u3.alloc (tmCells y2.head aR y2.args.length cR) = u4 := ⟨_, rfl⟩
            have hb4 : Below u3.heap.size u3 u4 := by rw [← hu4]; exact (Below.refl _ _).alloc (Nat.le_refl _) _
            have V2 := Lib.hid (show Later (Vc u3.heap.size y2.head aR y2.args.length cR) u4 from by rw [← hu4]; exact later_var u3 _ _ _ _)
            have hbz3 := hb3.size
            have hbz4 := hb4.size
            have hB4 : Below u2.heap.size u2 u4 := hb3.trans (hb4.mono hb3.size)
            have HBU4 := Lib.hid (HBU2.out.trans (hB4.mono HBU2.out.size))
            have HIR := Lib.hid (hIR.keep (ok' := fun b => (b < w6.heap.size ∨ wr.heap.size ≤ b) ∧ b < u4.heap.size) (fun b hb => hb4.block b hb.2) (fun b hb => by have := hb.1; have := hb.2; have := HBU2.out.size; omega))
            have HIL4 := Lib.hid (HIL.out.keep (ok' := fun b => (b < w6.heap.size ∨ wr.heap.size ≤ b) ∧ b < u4.heap.size) (fun b hb => hB4.block b hb.2) (fun b hb => ⟨hb.1, by have := hb.2; omega⟩))
            have V14 := Lib.hid (V1.out.mv hB4)
            have HWL := Lib.hid (And.intro hwL hwR)
            clear hIR hb3 hb4 hB4 HIL V1 hwL hwR
            have HBF := Lib.hid (HB6.out.trans ((HBL.out.trans (HBU4.out.mono hbz7)).mono HB6.out.size))
            obtain ⟨k1, hk1'⟩ : ∃ k1, shfE x.l ym = k1 := ⟨_, rfl⟩
            obtain ⟨k2, hk2'⟩ : ∃ k2, shfE x.r ym = k2 := ⟨_, rfl⟩
            rw [hk1', hk2'] at HBS
            rw [hk1', hk2']
            clear hk1' hk2'
            by_cases hy : 255 < y
            · go_wp2_with fail
              clear hu4
              refine (vars10_any Q (by omega) HQZ.out w6.heap.size _ c2 u4 (by have := HBU4.out.size; omega) (HQ6.out.below (HBL.out.trans (HBU4.out.mono hbz7)))).mono ?_
              rintro e u5 ⟨pv, cv, rfl, _, _, hb5⟩
              have HBX := Lib.hid hb5
              clear hb5
              by_cases hlen : 0 < (T.rvs [] (sidesC (t3s Q))).length
              · have hmt : mb = true := by rw [HMB.out, decide_eq_true hy, decide_eq_true hlen]; rfl
                have hlen' : (0 : Int) < ((T.rvs [] (sidesC (t3s Q))).length : Int) := by omega
                have HF := Lib.hid (show apaE (t3s A) (t3s B) = 1 from by rw [HE.out, HANY.out (by rw [HBS.out]; simp [hmt])]; rfl)
                have HFL := Lib.hid (show apaL (t3s A) (t3s B) = [] from by unfold apaL; rw [HF.out]; rfl)
                go_wp2
                refine bodyPost_ret (v := .tuple #[.slice none 0 0, .int .i64 1]) (by simp [results, Tryz.results10, go_sem]) rfl ?_
                exact ⟨[], none, 0, HFL.out.symm, by rw [HF.out]; rfl, IsCl.nil _ _ _ (by simp [maxLen]), HBF.out.trans (HBX.out.mono HBF.out.size)⟩
              have hmbf : mb = false := by rw [HMB.out, decide_eq_false hlen]; simp
              have hlen' : decide ((0 : Int) < ((T.rvs [] (sidesC (t3s Q))).length : Int)) = false := decide_eq_false (by omega)
              have HBW := Lib.hid (HBU4.out.trans (HBX.out.mono HBU4.out.size))
              have HBG := Lib.hid (HBF.out.trans (HBX.out.mono HBF.out.size))
              by_cases e1 : k1 = 0
              case neg =>
                have e1' : (k1 != 0) = true := by simpa using e1
                have HF := Lib.hid (show apaE (t3s A) (t3s B) = 1 from by rw [HE.out, HANY.out (by rw [HBS.out]; simp [e1])]; rfl)
                have HFL := Lib.hid (show apaL (t3s A) (t3s B) = [] from by unfold apaL; rw [HF.out]; rfl)
                go_wp2
                refine bodyPost_ret (v := .tuple #[.slice none 0 0, .int .i64 1]) (by simp [results, Tryz.results10, go_sem]) rfl ?_
                exact ⟨[], none, 0, HFL.out.symm, by rw [HF.out]; rfl, IsCl.nil _ _ _ (by simp [maxLen]), HBG.out⟩
              subst e1
              by_cases e2 : k2 = 0
              case neg =>
                have e2' : (k2 != 0) = true := by simpa using e2
                have HF := Lib.hid (show apaE (t3s A) (t3s B) = 1 from by rw [HE.out, HANY.out (by rw [HBS.out]; simp [e2])]; rfl)
                have HFL := Lib.hid (show apaL (t3s A) (t3s B) = [] from by unfold apaL; rw [HF.out]; rfl)
                go_wp2
                refine bodyPost_ret (v := .tuple #[.slice none 0 0, .int .i64 1]) (by simp [results, Tryz.results10, go_sem]) rfl ?_
                exact ⟨[], none, 0, HFL.out.symm, by rw [HF.out]; rfl, IsCl.nil _ _ _ (by simp [maxLen]), HBG.out⟩
              subst e2
              have HNX := Lib.hid (HSTP.out (by rw [HBS.out, hmbf]; rfl))
              obtain ⟨l0, l1⟩ := (V14.out.mv HBX.out).now
              obtain ⟨r0, r1⟩ := (V2.out.mv HBX.out).now
              obtain ⟨a0, _, _, _, _⟩ := HA5.out.keep (fun i => HBW.out.cell (p := ⟨b, i, none⟩) hbw)
              have hown := HO.out.1
              rw [HOL.out] at hown
              have HOWN := Lib.hid hown
              have hkm : k + 1 ≤ maxLen := by unfold maxLen; omega
              have hBf : Below wr.heap.size wr u5.drew := HBW.out.trans ((Below.refl _ _).drew.mono HBW.out.size)
              have hzf := hBf.size
              have HBFD := Lib.hid hBf
              clear hown hBf
              go_wp2
              go_region_law (refine step_append_lies _ (by rfl) _ _ _ (by rfl) w6.heap.size 36 i0 _ 5 72 Tryz.underlying23 hi hz0 hz1 hz2' rfl (by omega) u11 k (lcells O) (by rfl) ((ownsRow_later HOWN.out HBFD.out).alloc _) ⟨u5.drew.heap.size, 0, none⟩ 1 1 [.bool x.n, .int .i64 y1.head, .slice aL y1.args.length cL, .int .i64 y2.head, .slice aR y2.args.length cR] (by rfl) (by rfl) (World.news_of_block (cs := #[.bool x.n, .int .i64 y1.head, .slice aL y1.args.length cL, .int .i64 y2.head, .slice aR y2.args.length cR]) (t := 36) (fr := (0, 0)) (heap_alloc_new u5.drew _)) (by simp [Value.oneCell']) (by omega) hkm (by omega) (by simp at hzf ⊢; omega) (u5.drew.heap.size + 1) (by simp) ?_; intro g cap w8 hown8 hgrow8 hat8 hlt8)
              all_goals
                have hbd : Below u5.heap.size u5 u5.drew := (Below.refl _ _).drew
                have hbx := HBX.out.trans (hbd.mono HBX.out.size)
                have hbo : ∀ b, ((b < w6.heap.size ∨ wr.heap.size ≤ b) ∧ b < u4.heap.size) → b < u5.drew.heap.size ∧ u11.ownBlock ≠ some b := fun b hb => by
                  have hq := hbx.size
                  refine ⟨by omega, fun e => ?_⟩
                  have := HO.out.block e
                  omega
                have hst := ol_step (z := ⟨x.n, y1, y2, aL, cL, aR, cR⟩) HOL.out HO.out HBFD.out hbz7 ⟨HWL.out.1, HWL.out.2, HIL4.out.keep (fun b hb => hbx.block b hb.2) hbo, HIR.out.keep (fun b hb => hbx.block b hb.2) hbo⟩ hown8 hgrow8 hat8
                have HST := Lib.hid hst
                have HTZ := Lib.hid (HT.out ⟨x.n, y1, y2, aL, cL, aR, cR⟩ rfl rfl rfl)
                clear hst hown8 hgrow8 hat8 hlt8 hbo hbd hbx
                go_wp2
                go_roundw
                case rel => exact ⟨k + 1, O ++ [⟨x.n, y1, y2, aL, cL, aR, cR⟩], by omega, by go_num, by simp [HOL.out], shf_snoc HX.out.1 HOT.out HTZ.out, HNX.out, HST.out.1, HBL.out.trans HST.out.2⟩
                case measure => simp [intOf]; omega
            · have hmbf : mb = false := by rw [HMB.out, decide_eq_false hy]; rfl
              have HBX := Lib.hid (Below.refl u4.heap.size u4)
              have hy' : decide (255 < y) = false := decide_eq_false hy
              have HBW := Lib.hid (HBU4.out.trans (HBX.out.mono HBU4.out.size))
              have HBG := Lib.hid (HBF.out.trans (HBX.out.mono HBF.out.size))
              by_cases e1 : k1 = 0
              case neg =>
                have e1' : (k1 != 0) = true := by simpa using e1
                have HF := Lib.hid (show apaE (t3s A) (t3s B) = 1 from by rw [HE.out, HANY.out (by rw [HBS.out]; simp [e1])]; rfl)
                have HFL := Lib.hid (show apaL (t3s A) (t3s B) = [] from by unfold apaL; rw [HF.out]; rfl)
                go_wp2
                refine bodyPost_ret (v := .tuple #[.slice none 0 0, .int .i64 1]) (by simp [results, Tryz.results10, go_sem]) rfl ?_
                exact ⟨[], none, 0, HFL.out.symm, by rw [HF.out]; rfl, IsCl.nil _ _ _ (by simp [maxLen]), HBG.out⟩
              subst e1
              by_cases e2 : k2 = 0
              case neg =>
                have e2' : (k2 != 0) = true := by simpa using e2
                have HF := Lib.hid (show apaE (t3s A) (t3s B) = 1 from by rw [HE.out, HANY.out (by rw [HBS.out]; simp [e2])]; rfl)
                have HFL := Lib.hid (show apaL (t3s A) (t3s B) = [] from by unfold apaL; rw [HF.out]; rfl)
                go_wp2
                refine bodyPost_ret (v := .tuple #[.slice none 0 0, .int .i64 1]) (by simp [results, Tryz.results10, go_sem]) rfl ?_
                exact ⟨[], none, 0, HFL.out.symm, by rw [HF.out]; rfl, IsCl.nil _ _ _ (by simp [maxLen]), HBG.out⟩
              subst e2
              have HNX := Lib.hid (HSTP.out (by rw [HBS.out, hmbf]; rfl))
              obtain ⟨l0, l1⟩ := (V14.out.mv HBX.out).now
              obtain ⟨r0, r1⟩ := (V2.out.mv HBX.out).now
              obtain ⟨a0, _, _, _, _⟩ := HA5.out.keep (fun i => HBW.out.cell (p := ⟨b, i, none⟩) hbw)
              have hown := HO.out.1
              rw [HOL.out] at hown
              have HOWN := Lib.hid hown
              have hkm : k + 1 ≤ maxLen := by unfold maxLen; omega
              have hBf : Below wr.heap.size wr u4.drew := HBW.out.trans ((Below.refl _ _).drew.mono HBW.out.size)
              have hzf := hBf.size
              have HBFD := Lib.hid hBf
              clear hown hBf
              go_wp2
              go_region_law (refine step_append_lies _ (by rfl) _ _ _ (by rfl) w6.heap.size 36 i0 _ 5 72 Tryz.underlying23 hi hz0 hz1 hz2' rfl (by omega) u11 k (lcells O) (by rfl) ((ownsRow_later HOWN.out HBFD.out).alloc _) ⟨u4.drew.heap.size, 0, none⟩ 1 1 [.bool x.n, .int .i64 y1.head, .slice aL y1.args.length cL, .int .i64 y2.head, .slice aR y2.args.length cR] (by rfl) (by rfl) (World.news_of_block (cs := #[.bool x.n, .int .i64 y1.head, .slice aL y1.args.length cL, .int .i64 y2.head, .slice aR y2.args.length cR]) (t := 36) (fr := (0, 0)) (heap_alloc_new u4.drew _)) (by simp [Value.oneCell']) (by omega) hkm (by omega) (by simp at hzf ⊢; omega) (u4.drew.heap.size + 1) (by simp) ?_; intro g cap w8 hown8 hgrow8 hat8 hlt8)
              all_goals
                have hbd : Below u4.heap.size u4 u4.drew := (Below.refl _ _).drew
                have hbx := HBX.out.trans (hbd.mono HBX.out.size)
                have hbo : ∀ b, ((b < w6.heap.size ∨ wr.heap.size ≤ b) ∧ b < u4.heap.size) → b < u4.drew.heap.size ∧ u11.ownBlock ≠ some b := fun b hb => by
                  have hq := hbx.size
                  refine ⟨by omega, fun e => ?_⟩
                  have := HO.out.block e
                  omega
                have hst := ol_step (z := ⟨x.n, y1, y2, aL, cL, aR, cR⟩) HOL.out HO.out HBFD.out hbz7 ⟨HWL.out.1, HWL.out.2, HIL4.out.keep (fun b hb => hbx.block b hb.2) hbo, HIR.out.keep (fun b hb => hbx.block b hb.2) hbo⟩ hown8 hgrow8 hat8
                have HST := Lib.hid hst
                have HTZ := Lib.hid (HT.out ⟨x.n, y1, y2, aL, cL, aR, cR⟩ rfl rfl rfl)
                clear hst hown8 hgrow8 hat8 hlt8 hbo hbd hbx
                go_wp2
                go_roundw
                case rel => exact ⟨k + 1, O ++ [⟨x.n, y1, y2, aL, cL, aR, cR⟩], by omega, by go_num, by simp [HOL.out], shf_snoc HX.out.1 HOT.out HTZ.out, HNX.out, HST.out.1, HBL.out.trans HST.out.2⟩
                case measure => simp [intOf]; omega
          · obtain rfl : k = Q.length := by omega
            obtain ⟨p, c', rfl, hR⟩ := HO.out.args (fun b hb => hb.1)
            have HR := Lib.hid hR
            have hn2 := HNB.out
            have ht2 := HOT.out
            rw [List.take_length] at hn2 ht2
            have HF := Lib.hid (show apaE (t3s A) (t3s B) = 0 from by rw [HE.out, hn2]; rfl)
            have HFL := Lib.hid (show apaL (t3s A) (t3s B) = (t3s Q).map (shfL ym) from by unfold apaL; rw [HF.out, ← HQ.out, HYY.out]; rfl)
            have HTO := Lib.hid ht2
            have HBG := Lib.hid (HB6.out.trans (HBL.out.mono HB6.out.size))
            clear hR hn2 ht2
            go_wp2
            refine bodyPost_ret (v := .tuple #[.slice p O.length c', .int .i64 0]) (by simp [results, Tryz.results10, go_sem]) rfl ?_
            exact ⟨O, p, c', by rw [HFL.out]; exact HTO.out, by rw [HF.out], HR.out, HBG.out⟩

end Go.Proofs.YtbdabdjpgmnejaaGreat

/- Norms of terms; plain. -/
namespace Go.Proofs.YtbdabdjpgmnejaaGreat
set_option linter.unusedVariables false
set_option linter.unusedSimpArgs false
open Go.RowKit

mutual
def T.nrm : T → List Int → T × List Int
  | .node h ts, N => if h < 0 then (.node (-1 - ix (ddStep N (-1 - h)) (-1 - h)) [], ddStep N (-1 - h)) else (.node h (T.nrms ts N).1, (T.nrms ts N).2)
def T.nrms : List T → List Int → List T × List Int
  | [], N => ([], N)
  | t :: ts, N => ((t.nrm N).1 :: (T.nrms ts (t.nrm N).2).1, (T.nrms ts (t.nrm N).2).2)
end
theorem T.nrm_neg {t : T} {N : List Int} (h : t.head < 0) : t.nrm N = (.node (-1 - ix (ddStep N (-1 - t.head)) (-1 - t.head)) [], ddStep N (-1 - t.head)) := by
  cases t; rw [T.nrm]; exact if_pos h
theorem T.nrm_pos {t : T} {N : List Int} (h : ¬ t.head < 0) : t.nrm N = (.node t.head (T.nrms t.args N).1, (T.nrms t.args N).2) := by
  cases t; rw [T.nrm]; exact if_neg h
theorem T.nrms_append (xs ys : List T) (N : List Int) : T.nrms (xs ++ ys) N = ((T.nrms xs N).1 ++ (T.nrms ys (T.nrms xs N).2).1, (T.nrms ys (T.nrms xs N).2).2) := by
  induction xs generalizing N with
  | nil => simp [T.nrms]
  | cons x xs ih => simp only [List.cons_append, T.nrms, ih]
theorem T.nrms_length (ts : List T) (N : List Int) : (T.nrms ts N).1.length = ts.length := by
  induction ts generalizing N with
  | nil => rfl
  | cons t ts ih => simp [T.nrms, ih]
theorem T.nrms_take {ts : List T} {k : Nat} {s : T} (h : ts[k]? = some s) (N : List Int) : T.nrms (ts.take (k + 1)) N = ((T.nrms (ts.take k) N).1 ++ [(s.nrm (T.nrms (ts.take k) N).2).1], (s.nrm (T.nrms (ts.take k) N).2).2) := by
  obtain ⟨hk, e⟩ := List.getElem?_eq_some_iff.1 h
  rw [List.take_succ_eq_append_getElem hk, e, T.nrms_append]
  simp [T.nrms]
mutual
theorem T.nrm_len (t : T) (N : List Int) : (t.nrm N).2.length ≤ N.length + t.size := by
  match t with
  | .node h ts =>
    rw [T.nrm]
    split
    · have : ∀ v, (ddStep N v).length ≤ N.length + 1 := fun v => by unfold ddStep; split <;> simp
      have := this (-1 - h)
      simp only [T.size]
      omega
    · have := T.nrms_len ts N
      simp only [T.size]
      omega
theorem T.nrms_len (ts : List T) (N : List Int) : (T.nrms ts N).2.length ≤ N.length + T.sizes ts := by
  match ts with
  | [] => simp [T.nrms, T.sizes]
  | t :: ts =>
    have h1 := T.nrm_len t N
    have h2 := T.nrms_len ts (t.nrm N).2
    simp only [T.nrms, T.sizes]
    omega
end


end Go.Proofs.YtbdabdjpgmnejaaGreat

/- Variables of a term; plain. -/
namespace Go.Proofs.YtbdabdjpgmnejaaGreat
set_option linter.unusedVariables false
set_option linter.unusedSimpArgs false
open Go.RowKit

theorem varsOf_length (pre : List (Nat × T)) : (varsOf pre).length ≤ pre.length := by
  suffices h : ∀ (pre : List (Nat × T)) (acc : List Int), (pre.foldl varStep acc).length ≤ acc.length + pre.length by simpa [varsOf] using h pre []
  intro pre
  induction pre with
  | nil => intro acc; simp
  | cons x pre ih => intro acc; rw [List.foldl_cons]; have h1 := ih (varStep acc x); have h2 := varStep_length acc x; simp; omega
theorem vt_head (v : Int) : (vt v).head = -1 - v := rfl
def vars1 (t : T) : List Int := varsOf (T.subs 1 t)
theorem vars1_length (t : T) : (vars1 t).length ≤ t.size := by have := varsOf_length (T.subs 1 t); rw [T.subs_length] at this; exact this
theorem heads_arg {t s : T} {i : Nat} (hi : t.args[i]? = some s) {g : Int} (hg : g ∈ s.heads) : g ∈ t.heads := by
  rw [T.heads_eq]
  exact List.mem_cons_of_mem _ (List.mem_flatten.2 ⟨_, List.mem_map.2 ⟨s, List.mem_of_getElem? hi, rfl⟩, hg⟩)
theorem sub_congr_vars {f g : Int → T} : ∀ (N : Nat) (t : T), t.size ≤ N → bad (T.subs 1 t) = false → (∀ h ∈ t.heads, h < 0 → f (-1 - h) = g (-1 - h)) → t.sub f = t.sub g := by
  intro N
  induction N with
  | zero => intro t ht; have := T.size_pos t; omega
  | succ N ih =>
    intro t ht hg hf
    by_cases q : t.head < 0
    · rw [T.sub_neg q, T.sub_neg q]
      exact hf t.head (by rw [T.heads_eq]; simp) q
    · rw [T.sub_pos q, T.sub_pos q]
      congr 1
      apply List.map_congr_left
      intro s hs
      obtain ⟨i, hi⟩ := List.getElem?_of_mem hs
      exact ih s (by have := T.size_lt_of_mem hi; have := T.size_eq t; omega) (good_arg hg hi) (fun h h1 h2 => hf h (heads_arg hi h1) h2)
theorem sub_inj_vars {f g : Int → T} : ∀ (N : Nat) (t : T), t.size ≤ N → bad (T.subs 1 t) = false → t.sub f = t.sub g → ∀ h ∈ t.heads, h < 0 → f (-1 - h) = g (-1 - h) := by
  intro N
  induction N with
  | zero => intro t ht; have := T.size_pos t; omega
  | succ N ih =>
    intro t ht hg he h hh hneg
    rw [T.heads_eq] at hh
    by_cases q : t.head < 0
    · rw [T.sub_neg q, T.sub_neg q] at he
      rw [good_leaf hg q] at hh
      simp at hh
      subst hh
      exact he
    · rw [T.sub_pos q, T.sub_pos q] at he
      injection he with _ he
      rcases List.mem_cons.1 hh with rfl | hh
      · exact absurd hneg q
      · simp only [List.mem_flatten, List.mem_map] at hh
        obtain ⟨_, ⟨s, hs, rfl⟩, hh⟩ := hh
        obtain ⟨i, hi⟩ := List.getElem?_of_mem hs
        have e1 := congrArg (fun l => l[i]?) he
        simp only [List.getElem?_map, hi, Option.map_some, Option.some.injEq] at e1
        exact ih s (by have := T.size_lt_of_mem hi; have := T.size_eq t; omega) (good_arg hg hi) e1 h hh hneg
theorem mem_vars' (t : T) (v : Int) : v ∈ vars1 t ↔ -1 - v ∈ t.heads ∧ 0 ≤ v := by
  rw [vars1, mem_vars]
  constructor
  · rintro ⟨h, h1, h2, rfl⟩
    rw [show -1 - (-1 - h) = h from by omega]
    exact ⟨h1, by omega⟩
  · rintro ⟨h1, h2⟩
    exact ⟨_, h1, by omega, by omega⟩
theorem vars1_bound {t : T} (hg : bad (T.subs 1 t) = false) {z : Int} (hz : z ∈ vars1 t) : 0 ≤ z ∧ z ≤ 255 := by
  obtain ⟨x, hx, h1, rfl⟩ := (mem_varsOf _ _).1 hz
  unfold bad at hg
  rw [List.any_eq_false] at hg
  have := hg x hx
  simp only [Bool.not_eq_true', Bool.not_eq_false] at this
  simp only [okB, if_pos h1, Bool.and_eq_true, decide_eq_true_iff] at this
  omega
theorem vars1_nodup (t : T) : (vars1 t).Nodup := by
  have : ∀ (pre : List (Nat × T)) (acc : List Int), acc.Nodup → (pre.foldl varStep acc).Nodup := by
    intro pre
    induction pre with
    | nil => intro acc h; exact h
    | cons x pre ih =>
      intro acc h
      rw [List.foldl_cons]
      refine ih _ ?_
      unfold varStep
      split
      · split
        · exact h
        · rename_i hc
          rw [List.nodup_append]
          refine ⟨h, by simp, fun a ha b hb => ?_⟩
          obtain rfl := List.mem_singleton.1 hb
          rintro rfl
          exact hc (by simpa using ha)
      · exact h
  exact this _ [] List.nodup_nil
theorem vars1_leaf {t : T} (hg : bad (T.subs 1 t) = false) (hn : t.head < 0) (v : Int) : v ∈ vars1 t ↔ v = -1 - t.head := by
  rw [mem_vars', T.heads_eq, good_leaf hg hn]
  simp
  omega
theorem vars1_node {t : T} (hn : ¬ t.head < 0) (v : Int) : v ∈ vars1 t ↔ ∃ s ∈ t.args, v ∈ vars1 s := by
  rw [mem_vars', T.heads_eq]
  simp only [List.mem_cons, List.mem_flatten, List.mem_map]
  constructor
  · rintro ⟨h | ⟨_, ⟨s, hs, rfl⟩, h⟩, h0⟩
    · omega
    · exact ⟨s, hs, (mem_vars' _ _).2 ⟨h, h0⟩⟩
  · rintro ⟨s, hs, h⟩
    obtain ⟨h1, h2⟩ := (mem_vars' _ _).1 h
    exact ⟨.inr ⟨_, ⟨s, hs, rfl⟩, h1⟩, h2⟩


end Go.Proofs.YtbdabdjpgmnejaaGreat

/- Norms of terms with other variables; plain. -/
namespace Go.Proofs.YtbdabdjpgmnejaaGreat
set_option linter.unusedVariables false
set_option linter.unusedSimpArgs false
open Go.RowKit

theorem ix_map {ρ : Int → Int} {P : Int → Prop} (hinj : ∀ u v, P u → P v → ρ u = ρ v → u = v) {L : List Int} (hL : ∀ u ∈ L, P u) {v : Int} (hv : P v) : ix (L.map ρ) (ρ v) = ix L v := by
  unfold ix
  congr 1
  induction L with
  | nil => rfl
  | cons u L ih =>
    rw [List.map_cons, List.idxOf_cons, List.idxOf_cons]
    by_cases e : u = v
    · subst e; simp
    · have hne : ¬ ρ u = ρ v := fun h => e (hinj u v (hL u (by simp)) hv h)
      rw [show (ρ u == ρ v) = false from by simpa using hne, show (u == v) = false from by simpa using e]
      simp only [cond_false]
      rw [ih fun x hx => hL x (by simp [hx])]
theorem ddStep_map {ρ : Int → Int} {P : Int → Prop} (hinj : ∀ u v, P u → P v → ρ u = ρ v → u = v) {N : List Int} (hN : ∀ u ∈ N, P u) {v : Int} (hv : P v) : ddStep (N.map ρ) (ρ v) = (ddStep N v).map ρ := by
  unfold ddStep
  by_cases h : v ∈ N
  · rw [if_pos (by simp; exact ⟨v, h, rfl⟩), if_pos (by simpa using h)]
  · rw [if_neg (by simp; intro u hu e; exact h (hinj u v (hN u hu) hv e ▸ hu)), if_neg (by simpa using h)]
    simp
mutual
theorem T.nrm_ren (ρ : Int → Int) (P : Int → Prop) (hinj : ∀ u v, P u → P v → ρ u = ρ v → u = v) (hpos : ∀ v, P v → 0 ≤ ρ v) (t : T) (hg : bad (T.subs 1 t) = false) (hP : ∀ h ∈ t.heads, h < 0 → P (-1 - h)) (N : List Int) (hN : ∀ v ∈ N, P v) :
    (t.sub (fun v => vt (ρ v))).nrm (N.map ρ) = ((t.nrm N).1, (t.nrm N).2.map ρ) ∧ ∀ v ∈ (t.nrm N).2, P v := by
  match t with
  | .node h ts =>
    by_cases q : h < 0
    · have hv : P (-1 - h) := hP h (by rw [T.heads_eq]; simp [T.head]) q
      have hp := hpos _ hv
      have e1 : (T.node h ts).sub (fun v => vt (ρ v)) = vt (ρ (-1 - h)) := T.sub_neg (t := .node h ts) q
      rw [e1, T.nrm_neg (t := vt (ρ (-1 - h))) (by rw [vt_head]; omega), vt_head, show -1 - (-1 - ρ (-1 - h)) = ρ (-1 - h) from by omega, T.nrm_neg (t := .node h ts) q]
      simp only [T.head]
      have hdd : ∀ u ∈ ddStep N (-1 - h), P u := fun u hu => by
        rcases mem_ddStep.1 hu with hu | rfl
        · exact hN u hu
        · exact hv
      rw [ddStep_map hinj hN hv, ix_map hinj hdd hv]
      exact ⟨rfl, hdd⟩
    · have e1 : (T.node h ts).sub (fun v => vt (ρ v)) = .node h (ts.map (T.sub (fun v => vt (ρ v)))) := T.sub_pos (t := .node h ts) q
      rw [e1, T.nrm_pos (t := .node h (ts.map (T.sub (fun v => vt (ρ v))))) q, T.nrm_pos (t := .node h ts) q]
      simp only [T.head, T.args]
      have hgs : ∀ s ∈ ts, bad (T.subs 1 s) = false := fun s hs => by obtain ⟨i, hi⟩ := List.getElem?_of_mem hs; exact good_arg (t := .node h ts) hg hi
      have hPs : ∀ s ∈ ts, ∀ g ∈ s.heads, g < 0 → P (-1 - g) := fun s hs g hg' hn => by obtain ⟨i, hi⟩ := List.getElem?_of_mem hs; exact hP g (heads_arg (t := .node h ts) hi hg') hn
      obtain ⟨h1, h2⟩ := T.nrms_ren ρ P hinj hpos ts hgs hPs N hN
      rw [h1]
      exact ⟨rfl, h2⟩
theorem T.nrms_ren (ρ : Int → Int) (P : Int → Prop) (hinj : ∀ u v, P u → P v → ρ u = ρ v → u = v) (hpos : ∀ v, P v → 0 ≤ ρ v) (ts : List T) (hg : ∀ s ∈ ts, bad (T.subs 1 s) = false) (hP : ∀ s ∈ ts, ∀ h ∈ s.heads, h < 0 → P (-1 - h)) (N : List Int) (hN : ∀ v ∈ N, P v) :
    T.nrms (ts.map (T.sub (fun v => vt (ρ v)))) (N.map ρ) = ((T.nrms ts N).1, (T.nrms ts N).2.map ρ) ∧ ∀ v ∈ (T.nrms ts N).2, P v := by
  match ts with
  | [] => exact ⟨rfl, hN⟩
  | t :: ts =>
    obtain ⟨h1, h2⟩ := T.nrm_ren ρ P hinj hpos t (hg t (by simp)) (hP t (by simp)) N hN
    obtain ⟨h3, h4⟩ := T.nrms_ren ρ P hinj hpos ts (fun s hs => hg s (by simp [hs])) (fun s hs => hP s (by simp [hs])) (t.nrm N).2 h2
    rw [List.map_cons, T.nrms, T.nrms, h1]
    simp only
    rw [h3]
    exact ⟨rfl, h4⟩
end
theorem ix_prefix {L E : List Int} {v : Int} (h : v ∈ L) : ix (L ++ E) v = ix L v := by
  unfold ix
  rw [List.idxOf_append, if_pos h]
mutual
/-- What Norm makes of a term: its variables become their numbers. -/
theorem T.nrm_sub (t : T) (hg : bad (T.subs 1 t) = false) (N : List Int) : (∃ E, (t.nrm N).2 = N ++ E) ∧ (∀ v, v ∈ (t.nrm N).2 ↔ v ∈ N ∨ v ∈ vars1 t) ∧ ∀ E, (t.nrm N).1 = t.sub (fun v => vt (ix ((t.nrm N).2 ++ E) v)) := by
  match t with
  | .node h ts =>
    by_cases q : h < 0
    · rw [T.nrm_neg (t := .node h ts) q]
      simp only [T.head]
      refine ⟨?_, fun v => ?_, fun E => ?_⟩
      · unfold ddStep
        split
        · exact ⟨[], by simp⟩
        · exact ⟨_, rfl⟩
      · rw [mem_ddStep, vars1_leaf hg q]
        simp [T.head]
      · rw [T.sub_neg (t := .node h ts) q]
        simp only [T.head]
        rw [ix_prefix (mem_ddStep.2 (.inr rfl))]
        rfl
    · rw [T.nrm_pos (t := .node h ts) q]
      simp only [T.head, T.args]
      have hgs : ∀ s ∈ ts, bad (T.subs 1 s) = false := fun s hs => by obtain ⟨i, hi⟩ := List.getElem?_of_mem hs; exact good_arg (t := .node h ts) hg hi
      obtain ⟨h1, h2, h3⟩ := T.nrms_sub ts hgs N
      refine ⟨h1, fun v => ?_, fun E => ?_⟩
      · rw [h2, vars1_node (t := .node h ts) q]
        simp [T.args]
      · rw [T.sub_pos (t := .node h ts) q]
        simp only [T.head, T.args]
        rw [h3 E]
theorem T.nrms_sub (ts : List T) (hg : ∀ s ∈ ts, bad (T.subs 1 s) = false) (N : List Int) : (∃ E, (T.nrms ts N).2 = N ++ E) ∧ (∀ v, v ∈ (T.nrms ts N).2 ↔ v ∈ N ∨ ∃ s ∈ ts, v ∈ vars1 s) ∧ ∀ E, (T.nrms ts N).1 = ts.map (T.sub (fun v => vt (ix ((T.nrms ts N).2 ++ E) v))) := by
  match ts with
  | [] => exact ⟨⟨[], by simp [T.nrms]⟩, by simp [T.nrms], by simp [T.nrms]⟩
  | t :: ts =>
    obtain ⟨⟨E1, a1⟩, a2, a3⟩ := T.nrm_sub t (hg t (by simp)) N
    obtain ⟨⟨E2, b1⟩, b2, b3⟩ := T.nrms_sub ts (fun s hs => hg s (by simp [hs])) (t.nrm N).2
    simp only [T.nrms]
    refine ⟨⟨E1 ++ E2, by rw [b1, a1, List.append_assoc]⟩, fun v => ?_, fun E => ?_⟩
    · rw [b2, a2]
      simp [or_assoc]
    · rw [List.map_cons, ← b3 E]
      congr 1
      rw [b1, List.append_assoc]
      exact a3 (E2 ++ E)
end

end Go.Proofs.YtbdabdjpgmnejaaGreat

/- Norms, in plain words. -/
namespace Go.Proofs.YtbdabdjpgmnejaaGreat
set_option linter.unusedVariables false
set_option linter.unusedSimpArgs false
open Go.RowKit

/-! ### Norm -/
mutual
theorem T.nrm_rv (t : T) (hg : bad (T.subs 1 t) = false) (N : List Int) : (t.nrm N).2 = dd N t.rv := by
  match t with
  | .node h ts =>
    by_cases q : h < 0
    · rw [T.nrm_neg (t := .node h ts) q]
      have e2 : ts = [] := good_leaf (t := .node h ts) hg q
      subst e2
      simp only [T.head, T.rv, T.rvs, if_pos q]
      rfl
    · rw [T.nrm_pos (t := .node h ts) q]
      have hgs : ∀ s ∈ ts, bad (T.subs 1 s) = false := fun s hs => by obtain ⟨i, hi⟩ := List.getElem?_of_mem hs; exact good_arg (t := .node h ts) hg hi
      simp only [T.args, T.rv, if_neg q]
      rw [T.nrms_rv ts hgs N, T.rvs_dd]
      rfl
theorem T.nrms_rv (ts : List T) (hg : ∀ s ∈ ts, bad (T.subs 1 s) = false) (N : List Int) : (T.nrms ts N).2 = T.rvs N ts := by
  match ts with
  | [] => rfl
  | t :: ts =>
    simp only [T.nrms, T.rvs]
    rw [T.nrms_rv ts (fun s hs => hg s (by simp [hs])), T.nrm_rv t (hg t (by simp))]
end
theorem norm_put {ts : List T} (hg : ∀ s ∈ ts, bad (T.subs 1 s) = false) : (T.nrms ts []).1 = ts.map (T.sub (ofS (numS (T.rvs [] ts)))) ∧ ∀ v ∈ T.rvs [] ts, 0 ≤ v ∧ v ≤ 255 := by
  obtain ⟨_, h2, h3⟩ := T.nrms_sub ts hg []
  have h := h3 []
  rw [List.append_nil] at h
  rw [T.nrms_rv ts hg []] at h h2
  refine ⟨?_, fun v hv => ?_⟩
  · rw [h]
    apply List.map_congr_left
    intro s hs
    refine sub_congr_vars _ s (Nat.le_refl _) (hg s hs) fun g hg' hn => ?_
    have : -1 - g ∈ T.rvs [] ts := (h2 _).2 (.inr ⟨s, hs, (mem_vars' _ _).2 ⟨by rw [show -1 - (-1 - g) = g from by omega]; exact hg', by omega⟩⟩)
    exact (ofS_num this).symm
  · rcases (h2 v).1 hv with h | ⟨s, hs, h⟩
    · simp at h
    · exact vars1_bound (hg s hs) h
end Go.Proofs.YtbdabdjpgmnejaaGreat
