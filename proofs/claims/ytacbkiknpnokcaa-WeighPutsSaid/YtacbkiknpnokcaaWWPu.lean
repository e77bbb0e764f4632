/- The walk of WeighPuts. -/
import Derived.Test.YtacbkiknpnokcaaAw7
import Derived.Test.YtacbkiknpnokcaaFw7
import Derived.Test.YtacbkiknpnokcaaWp2
import Derived.Test.YtacbkiknpnokcaaCount
import Derived.Test.YtacbkiknpnokcaaFewS
namespace Go.Proofs.Ytacbkiknpnokcaa
set_option linter.unusedVariables false
set_option linter.unusedSimpArgs false
open Go.RowKit

theorem app_ok7 {s : Sb} {t : T} (h : appE s t = 0) : rightS 0 s = true ∧ t.check = 0 ∧ appT s t = t.sub (ofS s) ∧ (t.sub (ofS s)).check = 0 := by
  unfold appE at h
  split at h
  · rename_i hg
    have := hg
    simp [goodA] at this
    refine ⟨this.1, this.2, ?_, h⟩
    unfold appT endT
    rw [if_pos hg, if_pos h]
  · cases h
/-- What Weight's two results are. -/
def wtV (g : Sg) (t : T) : Int := if errT g t = 0 then wtT g t else 0
theorem weightV_eq (g : Sg) (t : T) : weightV g t = .tuple #[.int .i64 (wtV g t), .int .i64 (errT g t)] := by
  unfold weightV wtV
  by_cases h : errT g t = 0
  · rw [if_pos h, if_pos h, h]
  · rw [if_neg h, if_neg h]

def PuI (L : List Int) (F : Nat → Int) (en : Nat) (w8 : World) (mv i : Value) (wr : World) : Prop := ∃ k : Nat, k ≤ en ∧ i = .int .i64 k ∧ mv = .int .i64 (mS L F k) ∧ Below w8.heap.size w8 wr

set_option maxRecDepth 100000 in
set_option maxHeartbeats 4000000 in
theorem weighPuts_walk (g : Sg) (t : T) (s : Sb) (ga : Option Addr) (gc : Nat) (a : Option Addr) (c : Nat) (sa : Option Addr) (sc : Nat) (w : World) (htw : (Lit.int .i64 t.head).wf = true) (hG : IsSg w.heap.size w g ga gc) (hA : IsArgs w.heap.size w t.args a c) (hS : IsBs w.heap.size w s sa sc) :
    Calls Try.prog 4 #[.slice ga g.length gc, tm t.head a t.args.length c, .slice sa s.length sc] w fun e w' => e = .returned (.bool true) ∧ Below w.heap.size w w' := by
  have HTW := Lib.hid htw
  have CA := Lib.hid awake7_any
  have D := Lib.hid ((((Later.below (Below.refl w.heap.size w)).and (later_sg hG)).and (later_bs hS)).pushT (Below.refl _ _) t a c hA)
  clear hG hA hS htw
  go_enter Try.func4, Try.ntmps4
  go_wp2_with fail
  generalize w.alloc (tmCells t.head a t.args.length c) = wB at D ⊢
  obtain ⟨_, _, _, hG0, _⟩ := D.out wB (Below.refl _ _)
  refine (fewG_any g wB.heap.size ga gc wB (Nat.le_refl _) hG0).mono ?_
  rintro e w1 ⟨b, rfl, hb1⟩
  have B1 := Lib.hid hb1
  clear hb1 hG0
  cases b with
  | false =>
    go_wp2
    go_ret
    exact ⟨rfl, (D.out _ B1.out).2.2.2.2⟩
  | true =>
  obtain ⟨⟨v0, v1⟩, hA0, _⟩ := D.out w1 B1.out
  go_wp2_with fail
  refine (few_any t w1.heap.size a c w1 (Nat.le_refl _) hA0).mono ?_
  rintro e w2 ⟨rfl, hb2⟩
  have B2 := Lib.hid (B1.out.trans (hb2.mono B1.out.size))
  clear hb2 hA0 v0 v1 B1
  by_cases qs : t.size ≤ 500
  case neg =>
    rw [decide_eq_false qs]
    go_wp2
    go_ret
    exact ⟨rfl, (D.out _ B2.out).2.2.2.2⟩
  rw [decide_eq_true qs]
  have hsz : t.size ≤ 1000000000000 := by omega
  obtain ⟨_, _, hS0, _⟩ := D.out w2 B2.out
  go_wp2_with fail
  refine (fewS_any s w2.heap.size sa sc w2 (Nat.le_refl _) hS0).mono ?_
  rintro e w3 ⟨b3, rfl, hfs, hb3⟩
  have B3 := Lib.hid (B2.out.trans (hb3.mono B2.out.size))
  clear hb3 hS0 B2
  cases b3 with
  | false =>
    go_wp2
    go_ret
    exact ⟨rfl, (D.out _ B3.out).2.2.2.2⟩
  | true =>
  have HFS := Lib.hid (show ∀ x ∈ s, x.2.size ≤ 1000000000000 from fun x hx => by have := hfs rfl x hx; omega)
  clear hfs
  obtain ⟨⟨v0, v1⟩, hA0, hS0, _⟩ := D.out w3 B3.out
  have CP := Lib.hid (apply_any s HFS.out t hsz w3.heap.size sa sc a c w3 (Nat.le_refl _) hS0 HTW.out hA0)
  clear hA0 hS0
  go_wp2_with fail
  refine CP.out.mono ?_
  rintro e w4 ⟨a4, c4, rfl, hw4, hA4, hb4⟩
  have B4 := Lib.hid (B3.out.trans (hb4.mono B3.out.size))
  clear hb4 CP v0 v1 B3
  have HAE := Lib.hid (show appE s t = appE s t from rfl)
  obtain ⟨u, hu⟩ : ∃ u, appT s t = u := ⟨_, rfl⟩
  obtain ⟨ea, hea⟩ : ∃ ea, appE s t = ea := ⟨_, rfl⟩
  rw [hu] at hw4 hA4 ⊢
  rw [hea]
  have HU := Lib.hid hu
  have HEA := Lib.hid hea
  have HUW := Lib.hid hw4
  have LU := Lib.hid (Later.pushT (Later.below (Below.refl w4.heap.size w4)) (Below.refl _ _) u a4 c4 hA4)
  clear hu hea hw4 hA4 HAE
  have B5 := Lib.hid (B4.out.alloc B4.out.size (tmCells u.head a4 u.args.length c4))
  obtain ⟨⟨v0, v1⟩, _⟩ := D.out w4 B4.out
  have hlt4 : w.heap.size < w4.heap.size := World.block_lt_of_cell? w4 ⟨w.heap.size, 0, none⟩ v0
  have hne4 : w.heap.size ≠ w4.heap.size := by omega
  go_wp2_with fail
  generalize w4.alloc (tmCells u.head a4 u.args.length c4) = w5 at LU B5 ⊢
  obtain ⟨_, hA5, _, hG5, _⟩ := D.out w5 B5.out
  have husz : u.size ≤ 1000000000000 := by
    rw [← HU.out]
    unfold appT
    by_cases hg : goodA s t = true
    · rw [if_pos hg]
      have := hg
      simp only [goodA, Bool.and_eq_true, decide_eq_true_eq] at this
      have h1 := sub_bound this.1 (check_ok this.2).1
      unfold endT
      by_cases hc : (t.sub (ofS s)).check = 0
      · rw [if_pos hc]; omega
      · rw [if_neg hc]; simp [Z0, T.size, T.sizes]
    · rw [if_neg hg]; simp [Z0, T.size, T.sizes]
  refine (weight_any g t hsz w5.heap.size ga gc a c w5 (Nat.le_refl _) hG5 HTW.out hA5).mono ?_
  rw [weightV_eq]
  rintro e w6 ⟨rfl, hb6⟩
  have B6 := Lib.hid (B5.out.trans (hb6.mono B5.out.size))
  have LU6 := Lib.hid (LU.out.mv hb6)
  generalize w4.heap.size = bu at LU6 ⊢
  clear hb6 hA5 hG5 v0 v1 B5 B4 LU hlt4 hne4
  obtain ⟨et, het⟩ : ∃ et, errT g t = et := ⟨_, rfl⟩
  obtain ⟨nt, hnt⟩ : ∃ nt, wtV g t = nt := ⟨_, rfl⟩
  rw [het, hnt]
  obtain ⟨⟨v0, v1⟩, hA6, _⟩ := LU6.out.now
  obtain ⟨_, _, _, hG6, _⟩ := D.out w6 B6.out
  have CW := Lib.hid (weight_any g u husz w6.heap.size ga gc a4 c4 w6 (Nat.le_refl _) hG6 HUW.out hA6)
  clear hA6 hG6
  go_wp2_with fail
  refine CW.out.mono ?_
  rw [weightV_eq]
  rintro e w7 ⟨rfl, hb7⟩
  have B7 := Lib.hid (B6.out.trans (hb7.mono B6.out.size))
  clear hb7 LU6 CW v0 v1 B6
  obtain ⟨eu, heu⟩ : ∃ eu, errT g u = eu := ⟨_, rfl⟩
  obtain ⟨nu, hnu⟩ : ∃ nu, wtV g u = nu := ⟨_, rfl⟩
  rw [heu, hnu]
  by_cases hall : ea = 0 ∧ et = 0 ∧ eu = 0
  · obtain ⟨rfl, rfl, rfl⟩ := hall
    obtain ⟨⟨v0, v1⟩, hA7, _⟩ := D.out w7 B7.out
    have HET := Lib.hid het
    have HEU := Lib.hid heu
    have CC := Lib.hid (counts_any t hsz w7.heap.size a c w7 (Nat.le_refl _) HTW.out hA7)
    clear hA7 het heu
    go_wp2_with fail
    refine CC.out.mono ?_
    rintro e w8 ⟨en, cv, rfl, hE, hown, hb8⟩
    have hln : (ctList t.hds en).length = en := by simp [ctList]
    obtain ⟨ca, cc, rfl, hI8⟩ := isIs_of_owns (p := ctList t.hds en) (by rw [hln]; exact hown)
    have B8 := Lib.hid (B7.out.trans (hb8.mono B7.out.size))
    have DC := Lib.hid (later_is hI8)
    have hcl := hI8.1
    have hcm := hI8.2.1
    rw [hln] at hcl ⊢
    unfold maxLen at hcm
    have he2 : en ≤ 256 := hE.1
    obtain ⟨hrs, htc, htu, huc⟩ := app_ok7 HEA.out
    rw [HU.out] at htu
    obtain ⟨hr, _⟩ := errT_ok HET.out
    have hot := (okT_iff hr).1 HET.out
    have hou := (okT_iff hr).1 HEU.out
    have hbt := (check_ok htc).2.2
    have HP := Lib.hid (show ∀ v : Nat, t.hds.count (-1 - (v : Int)) ≠ 0 → OkT g (ofS s (v : Int)) from fun v hv => by
      have hm : (-1 - (v : Int)) ∈ t.hds := List.count_pos_iff.1 (by omega)
      rw [htu] at hou
      have := put_part (ofS s) t.size t (Nat.le_refl _) hbt hou (-1 - (v : Int)) hm (by omega)
      rwa [show -1 - (-1 - (v : Int)) = (v : Int) from by omega] at this)
    have HSUM := Lib.hid (show nu = nt + mS t.hds (fun v => wtT g (ofS s (v : Int)) - 1) en from by
      rw [← hnu, ← hnt]
      unfold wtV
      rw [if_pos HEU.out, if_pos HET.out, htu, wt_put g (ofS s) t.size t (Nat.le_refl _) hbt, mS_sum g (ofS s) en t.hds (fun h hm hn => by
        have h1 := vars_low hbt h hm hn
        have h2 := hE.2.1 (-1 - h).toNat (by omega) (by rw [show -1 - (((-1 - h).toNat : Nat) : Int) = h from by omega]; exact hm)
        omega), sumA_hds])
    have HNT := Lib.hid (show 1 ≤ nt ∧ nt ≤ 400000 from by
      rw [← hnt]; unfold wtV; rw [if_pos HET.out]
      exact ⟨wt_pos hr hot, wt_le hr hot⟩)
    have HMB := Lib.hid (fun k => mS_bound (L := t.hds) (F := fun v => wtT g (ofS s (v : Int)) - 1) (by rw [T.hds_length]; exact (check_ok htc).1) k (fun v _ hv => by
      have h1 := wt_pos hr (HP.out v hv)
      have h2 := wt_le hr (HP.out v hv)
      omega))
    have HR := Lib.hid hr
    have HLEN := Lib.hid (show ∀ v : Nat, t.hds.count (-1 - (v : Int)) ≤ 400 from fun v => Nat.le_trans List.count_le_length (by rw [T.hds_length]; exact (check_ok htc).1))
    clear hown hI8 hb8 v0 v1 CC hrs htc htu huc hr hot hou hbt hE hnu hnt
    go_wp2
    go_loopw [14, 15] (fun mv i wr => PuI t.hds (fun v => wtT g (ofS s (v : Int)) - 1) en w8 mv i wr) (fun _ i _ => en - (intOf i).toNat)
    case atStart => exact ⟨0, Nat.zero_le _, rfl, rfl, Below.refl _ _⟩
    case round =>
      obtain ⟨k, hk, rfl, rfl, hB⟩ := hrel
      have HB := Lib.hid hB
      have hbz := hB.size
      have hmb := HMB.out k
      have hmk : (k : Int) * 160000000 ≤ 40960000000 := by omega
      have hB9 := B8.out.trans (hB.mono B8.out.size)
      have HB9 := Lib.hid hB9
      by_cases hlt : k < en
      · obtain ⟨b, o, z, rfl, hbn, hzk, hcz⟩ := (DC.out wr hB).elem (k := k) (by simp [ctList]; exact hlt)
        have hz : z = ((t.hds.count (-1 - (k : Int)) : Nat) : Int) := by
          unfold ctList at hzk
          rw [List.getElem?_map, List.getElem?_range hlt] at hzk
          simpa using hzk.symm
        subst hz
        have hk0 : (0 : Int) ≤ (k : Int) := Int.natCast_nonneg _
        have hk1 : (k : Int) < (en : Int) := by omega
        have hql := HLEN.out k
        have HQP := Lib.hid (HP.out k)
        have HST := Lib.hid (show mS t.hds (fun v => wtT g (ofS s (v : Int)) - 1) (k + 1) = mS t.hds (fun v => wtT g (ofS s (v : Int)) - 1) k + ((t.hds.count (-1 - (k : Int)) : Nat) : Int) * (wtT g (ofS s (k : Int)) - 1) from rfl)
        clear hzk hB
        generalize mS t.hds (fun v => wtT g (ofS s (v : Int)) - 1) k = mk at HST hmb ⊢
        generalize t.hds.count (-1 - (k : Int)) = q at *
        by_cases hq : q = 0
        · have HV := Lib.hid (show mS t.hds (fun v => wtT g (ofS s (v : Int)) - 1) (k + 1) = mk from by rw [HST.out, hq]; simp)
          subst hq
          clear HST HQP hB9
          go_wp2
          go_roundw
          case rel => exact ⟨k + 1, by omega, by go_num, by rw [HV.out], HB.out⟩
          case measure => simp [intOf]; omega
        · have hqz : ¬ ((q : Int) = 0) := by omega
          have hok := HQP.out hq
          have hxs := (check_ok hok.1).1
          have hw1 := wt_pos HR.out hok
          have hw2 := wt_le HR.out hok
          obtain ⟨_, _, hS9, hG9, _⟩ := D.out wr hB9
          have CO := Lib.hid (of_any s (k : Int) wr.heap.size sa sc wr (Nat.le_refl _) (by omega) (by omega) hS9)
          have CWX := Lib.hid (fun (W : World) (hW : Below wr.heap.size wr W) (ax : Option Addr) (cx : Nat) (hxw : (Lit.int .i64 (ofS s (k : Int)).head).wf = true) (hAx : IsArgs W.heap.size W (ofS s (k : Int)).args ax cx) =>
            weight_any g (ofS s (k : Int)) (by omega) W.heap.size ga gc ax cx W (Nat.le_refl _) (D.out W (hB9.trans (hW.mono hB9.size))).2.2.2.1 hxw hAx)
          have HWV := Lib.hid (show weightV g (ofS s (k : Int)) = .tuple #[.int .i64 (wtT g (ofS s (k : Int))), .int .i64 0] from by unfold weightV; rw [if_pos ((okT_iff HR.out).2 hok)])
          clear hS9 hG9 hok hB9
          generalize ofS s (k : Int) = x at *
          go_wp2_with fail
          refine CO.out.mono ?_
          rintro e w9 ⟨ax, cx, rfl, hxw, hAx, hb9⟩
          have CX := Lib.hid (CWX.out w9 hb9 ax cx hxw (hAx.mono hb9.size))
          have HB9' := Lib.hid (HB.out.trans (hb9.mono hbz))
          have e0 := (hb9.cell (p := ⟨b, o + k, none⟩) (by have := HB.out.size; omega)).trans hcz
          have hbw9 : b < w9.heap.size := by have := hb9.size; have := HB.out.size; omega
          clear hb9 hxw hAx CO CWX hcz
          go_wp2_with fail
          refine CX.out.mono ?_
          rw [HWV.out]
          rintro e w10 ⟨rfl, hb10⟩
          have HB10 := Lib.hid (HB9'.out.trans (hb10.mono HB9'.out.size))
          have e1 := (hb10.cell (p := ⟨b, o + k, none⟩) hbw9).trans e0
          clear hb10 e0
          generalize wtT g x = wx at *
          have hmul : (0 : Int) ≤ (q : Int) * (wx - 1) ∧ (q : Int) * (wx - 1) ≤ 160000000 := by
            refine ⟨Int.mul_nonneg (by omega) (by omega), ?_⟩
            have h4 : (q : Int) * (wx - 1) ≤ 400 * (wx - 1) := Int.mul_le_mul_of_nonneg_right (by omega) (by omega)
            omega
          go_wp2
          go_roundw
          case rel => exact ⟨k + 1, by omega, by go_num, by rw [HST.out], HB10.out⟩
          case measure => simp [intOf]; omega
      · obtain rfl : k = en := by omega
        clear hB hB9
        generalize mS t.hds (fun v => wtT g (ofS s (v : Int)) - 1) k = mk at HSUM hmb ⊢
        have hsum := HSUM.out
        subst hsum
        obtain ⟨hn1, hn2⟩ := HNT.out
        go_wp2_with fail
        refine (CA.out _).mono ?_
        rintro e w9 ⟨rfl, hb9⟩
        have B9 := Lib.hid (HB9.out.trans (hb9.mono HB9.out.size))
        clear hb9
        have hle : nt ≤ nt + mk := by omega
        go_wp2
        go_ret
        exact ⟨by simp [hle], (D.out _ B9.out).2.2.2.2⟩
  · have hbad : (ea != 0) = true ∨ ((ea != 0) = false ∧ (et != 0) = true) ∨ ((ea != 0) = false ∧ (et != 0) = false ∧ (eu != 0) = true) := by
      by_cases h1 : ea = 0
      · by_cases h2 : et = 0
        · have h3 : ¬ eu = 0 := fun h3 => hall ⟨h1, h2, h3⟩
          exact .inr (.inr ⟨by simpa using h1, by simpa using h2, by simpa using h3⟩)
        · exact .inr (.inl ⟨by simpa using h1, by simpa using h2⟩)
      · exact .inl (by simpa using h1)
    clear hall het heu hnt hnu
    rcases hbad with hk | ⟨hk, hk2⟩ | ⟨hk, hk2, hk3⟩
    all_goals
      go_wp2_with fail
      refine (CA.out _).mono ?_
      rintro e w8 ⟨rfl, hb8⟩
      have B8 := Lib.hid (B7.out.trans (hb8.mono B7.out.size))
      clear hb8
      go_wp2
      go_ret
      exact ⟨rfl, (D.out _ B8.out).2.2.2.2⟩

end Go.Proofs.Ytacbkiknpnokcaa
