/- The walk of BankOnce. -/
import Derived.Test.YtkejacodofmlhaaBkO
import Derived.Test.YtkejacodofmlhaaFw5
import Derived.Test.YtkejacodofmlhaaSame
import Derived.Deep.RegionHeld3
import Derived.Deep.CutRange
namespace Go.Proofs.Ytkejacodofmlhaa
set_option linter.unusedVariables false
set_option linter.unusedSimpArgs false
open Go.RowKit Go.Maps

theorem BankAt.low {B B' : Nat} {F : Nat → Prop} {W : World} {bb : Nat} {L : List T} (h : BankAt B F W bb L) (hB : B' ≤ B) : BankAt B' F W bb L := by
  obtain ⟨Tb, sv, M, rs, h1, h2, h3, h4, h5, h6, h7⟩ := h
  exact ⟨Tb, sv, M, rs, h1, by omega, ⟨h3.heap, by have := h3.base; omega, by have := h3.mb; omega, ⟨h3.rows.1, h3.rows.2.imp id fun ⟨g, cap, cur, p1, p2, p3⟩ => ⟨g, cap, cur, p1, by omega, p3⟩⟩, h3.map, h3.ok, h3.few⟩, h4, h5, h6, h7⟩
theorem FrS.since {F : Nat → Prop} {n : Nat} {a b c : World} (h : Below n a b) (k : FrS F b c) (hF : ∀ i, F i → n ≤ i ∧ i < b.heap.size) (hn : n ≤ b.heap.size) : Below n a c := h.trans (k.below hn (fun i hi => (hF i hi).1))
theorem fw_bound {F : Nat → Prop} {n : Nat} {w w' : World} (hF : ∀ i, F i → n ≤ i ∧ i < w.heap.size) (hn : n ≤ w.heap.size) (hz : w.heap.size ≤ w'.heap.size) : ∀ i, Fw F w w' i → n ≤ i ∧ i < w'.heap.size := fun i hi => by
  rcases hi with hi | hi
  · have := hF i hi; omega
  · omega

/-- Where the loop of BankOnce stands. -/
def OnI (ts : List T) (bb : Nat) (w : World) (i : Value) (wr : World) : Prop :=
  ∃ (k : Nat) (F : Nat → Prop) (L : List T), k ≤ ts.length ∧ i = .int .i64 k ∧ BankAt w.heap.size F wr bb L ∧ (∀ i, F i → w.heap.size ≤ i ∧ i < wr.heap.size) ∧ L.length ≤ T.sizes (ts.take k) ∧ Below w.heap.size w wr

set_option maxRecDepth 100000 in
set_option maxHeartbeats 8000000 in
theorem bankOnce_walk (ts : List T) (a : Option Addr) (c : Nat) (w : World) (hA : IsArgs w.heap.size w ts a c) :
    Calls Try.prog 5 #[.slice a ts.length c] w fun e w' => e = .returned (.bool true) ∧ Below w.heap.size w w' := by
  have hlc : ts.length ≤ c ∧ c ≤ maxLen := ⟨hA.1, hA.2.1⟩
  unfold maxLen at hlc
  obtain ⟨hl1, hl2⟩ := hlc
  have HA := Lib.hid hA
  clear hA
  go_enter Try.func5, Try.ntmps5
  go_wp2_with fail
  refine (few5_any ts w.heap.size a c w (Nat.le_refl _) HA.out).mono ?_
  rintro e w0 ⟨fb, rfl, hfew, hb0⟩
  have HB0 := Lib.hid hb0
  clear hb0
  cases fb
  · clear hfew
    go_wp2
    go_ret
    exact ⟨rfl, HB0.out⟩
  have hsz := hfew rfl
  clear hfew
  go_wp2_with fail
  refine (new_any _).mono ?_
  rintro e w1 ⟨bb, rfl, hG1, hb1⟩
  have HST := Lib.hid (show OnI ts bb w (.int .i64 ((0 : Nat) : Int)) w1 from ⟨0, fun i => w0.heap.size ≤ i ∧ i < w1.heap.size, [], by omega, rfl, hG1.low HB0.out.size, fun i hi => by have := HB0.out.size; omega, by simp, HB0.out.trans (hb1.mono HB0.out.size)⟩)
  clear hG1 hb1
  go_wp2
  go_loopw [4] (fun i wr => OnI ts bb w i wr) (fun i _ => ts.length - (intOf i).toNat)
  case atStart => exact HST.out
  case round =>
    obtain ⟨k, F, L, hk, rfl, hG, hF, hL, hB⟩ := hrel
    have HG := Lib.hid hG
    have HF := Lib.hid hF
    have HB := Lib.hid hB
    have HL := Lib.hid hL
    have hbz := hB.size
    clear hG hF hB hL HST
    by_cases hlt : k < ts.length
    · obtain ⟨b, o, t, a', c', rfl, hbn, hs, hswf, hc1, hc2, hA'⟩ := (HA.out.below HB.out).elem (i := k) hlt
      have hk0 : (0 : Int) ≤ (k : Int) := Int.natCast_nonneg _
      have hk1 : (k : Int) < (ts.length : Int) := by omega
      have hbw : b < wr.heap.size := by omega
      have HS := Lib.hid hs
      have HW := Lib.hid hswf
      have HA' := Lib.hid hA'
      have htz : t.size ≤ 500 := by have := T.size_lt_of_mem hs; omega
      have hstk := sizes_take_succ hs
      have hroom : L.length + t.size ≤ 500 := by
        have h1 := T.sizes_append (ts.take (k + 1)) (ts.drop (k + 1))
        rw [List.take_append_drop] at h1
        have := HL.out
        omega
      have HSTK := Lib.hid hstk
      have hwt : wfT t = true := wfT_args hswf (isArgsp_lt.2 hA')
      have HWT := Lib.hid hwt
      clear hs hswf hA' hstk hwt
      have CPut := Lib.hid (show ∀ (W : World) (F : Nat → Prop) (L : List T), BankAt w.heap.size F W bb L → (∀ i, F i → w.heap.size ≤ i ∧ i < W.heap.size) → Below w.heap.size wr W → Calls Try.prog 15 #[.pointer (some ⟨bb, 0, none⟩), tm t.head a' t.args.length c'] W (PutPost w.heap.size F bb L t W) from fun W F L hG hF hW =>
        put_any w.heap.size F (fun i => i < w.heap.size) bb L t (by omega) a' c' W (Nat.le_trans hbz hW.size) hG (fun i hi => ⟨Nat.lt_of_lt_of_le hi (Nat.le_trans hbz hW.size), fun e => by have := (hF i e).1; omega⟩) HW.out (isArgsp_lt.2 (HA'.out.below hW)))
      have KP := Lib.hid (show ∀ W, Below w.heap.size wr W → W.cell? ⟨b, o + k * 2, none⟩ = some (.int .i64 t.head) ∧ W.cell? ⟨b, o + k * 2 + 1, none⟩ = some (.slice a' t.args.length c') ∧ b < W.heap.size from fun W hW => ⟨Mm.cell_via hW hbn hc1, Mm.cell_via hW hbn hc2, Nat.lt_of_lt_of_le hbw hW.size⟩)
      by_cases hc : t.check = 0
      · obtain ⟨rs, hE⟩ := HG.out.enc
        obtain ⟨n, hv, hl, hn, hlen⟩ := once_put hE hc HWT.out (by omega)
        have CP := CPut.out wr F L HG.out HF.out (Below.refl _ _)
        unfold PutPost at CP
        rw [hv, hl] at CP
        generalize (pt L t).1 = L1 at CP hn hlen
        have CP' := Lib.hid CP
        have HN := Lib.hid hn
        have HLEN := Lib.hid hlen
        have HC := Lib.hid hc
        clear hv hl CP hc hE hlen hn
        go_wp2_with fail
        refine CP'.out.mono ?_
        rintro e w3 ⟨rfl, hG3, hF3⟩
        have hb3 := FrS.since (Below.refl w.heap.size wr) hF3 HF.out hbz
        have hz3 := hF3.size
        have hF3' := fw_bound HF.out hbz hz3
        generalize Fw F wr w3 = F3 at hG3 hF3'
        obtain ⟨rs3, hE3⟩ := hG3.enc
        have hnl : n < L1.length := (List.getElem?_eq_some_iff.1 HN.out).1
        obtain ⟨q, hq⟩ : ∃ q, L1.length = q := ⟨_, rfl⟩
        have hnq : (n : Int) < (q : Int) := by omega
        have hn0 : (0 : Int) ≤ (n : Int) := Int.natCast_nonneg _
        have CS := Lib.hid (show ∀ (W : World) (F : Nat → Prop), BankAt w.heap.size F W bb L1 → Calls Try.prog 25 #[.pointer (some ⟨bb, 0, none⟩)] W fun e w' => e = .returned (.int .i64 (q : Int)) ∧ w' = W from fun W F h => by
          have := bsize_any W h
          rw [hq] at this
          exact this)
        have HQ := Lib.hid hq
        obtain ⟨hv, hl, hfd⟩ := once_again hE3 HC.out HN.out
        have CP := CPut.out w3 F3 L1 hG3 hF3' hb3
        unfold PutPost at CP
        rw [hv, hl] at CP
        have CP2 := Lib.hid CP
        have HFD := Lib.hid hfd
        have HE := Lib.hid hE3
        have HG3 := Lib.hid hG3
        have HF3 := Lib.hid hF3'
        have HB3 := Lib.hid hb3
        clear hG3 hF3 hF3' hE3 hv hl hfd CP CP' hq hnl CPut
        go_wp2_with fail
        refine (CS.out w3 _ HG3.out).mono ?_
        rintro e w3' ⟨rfl, hw3⟩
        subst hw3
        obtain ⟨q0, q1, q2⟩ := KP.out w3' HB3.out
        clear hb3
        go_wp2_with fail
        refine CP2.out.mono ?_
        rintro e w4 ⟨rfl, hG4, hF4⟩
        have hb4 := FrS.since HB3.out hF4 HF3.out (by omega)
        have hz4 := hF4.size
        have hF4' := fw_bound HF3.out (by omega) hz4
        generalize Fw F3 w3' w4 = F4 at hG4 hF4'
        clear q0 q1 q2
        obtain ⟨q0, q1, q2⟩ := KP.out w4 hb4
        have CF := find_any w.heap.size F4 bb L1 t (by omega) w.heap.size a' c' w4 (by omega) hG4 HW.out (HA'.out.below hb4)
        rw [HFD.out] at CF
        have CF' := Lib.hid CF
        have HG4 := Lib.hid hG4
        have HF4 := Lib.hid hF4'
        have HB4 := Lib.hid hb4
        clear hG4 hF4 hF4' CF CP2 hb4
        go_wp2_with fail
        refine CF'.out.mono ?_
        rintro e w5 ⟨rfl, hb5⟩
        have hz5 := hb5.size
        have HB5 := Lib.hid (HB4.out.trans (hb5.mono (by omega)))
        have HG5 := Lib.hid (HG4.out.later hb5)
        have CT := bterm_any w.heap.size F4 bb L1 (n : Int) w5 (by omega) HG5.out
        have CT' := Lib.hid (show Calls Try.prog 19 #[.pointer (some ⟨bb, 0, none⟩), .int .i64 (n : Int)] w5 (fun e w' => ∃ a c, e = .returned (.tuple #[tm t.head a t.args.length c, .int .i64 0]) ∧ IsArgs w'.heap.size w' t.args a c ∧ Below w5.heap.size w5 w') from CT.mono fun e w' h => by
          rcases h with ⟨_, t', a, c, h1, h2, h3, h4⟩ | ⟨h, _⟩
          · have e1 : t' = t := by
              have h5 := HN.out
              simp only [Int.toNat_natCast] at h1
              rw [h1] at h5
              exact Option.some.inj h5
            subst e1
            exact ⟨a, c, h2, h3.toArgs (fun b hb => hb.2), h4⟩
          · exfalso
            have := HQ.out
            rcases chk_cases L1.length (n : Int) with ⟨h', _⟩ | ⟨_, h'⟩ <;> omega)
        clear hb5 CF' CT q0 q1 q2
        simp only [foundR, Option.getD_some, Option.isSome_some]
        go_wp2_with fail
        refine CT'.out.mono ?_
        rintro e w6 ⟨a6, c6, rfl, hA6, hb6⟩
        have hz6 := hb6.size
        have HA6 := Lib.hid hA6
        have HB6 := Lib.hid hb6
        clear hA6 hb6 CT'
        go_wp2_with fail
        have hbx : Below w6.heap.size w6 (w6.alloc (.cells #[.int .i64 t.head, .slice a6 t.args.length c6] 24)) := (Below.refl _ _).alloc (Nat.le_refl _) _
        have x0 : (w6.alloc (.cells #[.int .i64 t.head, .slice a6 t.args.length c6] 24)).cell? ⟨w6.heap.size, 0, none⟩ = some (.int .i64 t.head) := by simp
        have x1 : (w6.alloc (.cells #[.int .i64 t.head, .slice a6 t.args.length c6] 24)).cell? ⟨w6.heap.size, 1, none⟩ = some (.slice a6 t.args.length c6) := by simp
        have hxl : w6.heap.size < (w6.alloc (.cells #[.int .i64 t.head, .slice a6 t.args.length c6] 24)).heap.size := by simp
        generalize w6.alloc (.cells #[.int .i64 t.head, .slice a6 t.args.length c6] 24) = wx at hbx x0 x1 hxl ⊢
        have HB56 : Below w5.heap.size w5 wx := HB6.out.trans (hbx.mono HB6.out.size)
        have hwx : Below w.heap.size wr wx := HB5.out.trans (HB56.mono (by omega))
        have HGX := Lib.hid (show ∀ W, Below wx.heap.size wx W → BankAt w.heap.size F4 W bb L1 from fun W hW => HG5.out.later (HB56.trans (hW.mono HB56.size)))
        have KX := Lib.hid (show ∀ W, Below wx.heap.size wx W → W.cell? ⟨w6.heap.size, 0, none⟩ = some (.int .i64 t.head) ∧ W.cell? ⟨w6.heap.size, 1, none⟩ = some (.slice a6 t.args.length c6) ∧ W.cell? ⟨b, o + k * 2, none⟩ = some (.int .i64 t.head) ∧ W.cell? ⟨b, o + k * 2 + 1, none⟩ = some (.slice a' t.args.length c') ∧ Below wx.heap.size wx W from fun W hW => by
          obtain ⟨p0, p1, _⟩ := KP.out W (hwx.trans (hW.mono (by omega)))
          exact ⟨Mm.cell_via hW hxl x0, Mm.cell_via hW hxl x1, p0, p1, hW⟩)
        have HWX := Lib.hid hwx
        have CSM := Lib.hid (show ∀ W, Below wx.heap.size wx W → Calls Try.prog 29 #[tm t.head a6 t.args.length c6, tm t.head a' t.args.length c'] W fun e w' => e = .returned (.bool true) ∧ Below W.heap.size W w' from fun W hW => by
          have hz := hW.size
          have := same_any t t (by omega) W.heap.size a6 c6 a' c' W (Nat.le_refl _) HW.out HW.out ((HA6.out.below (hbx.trans (hW.mono (Nat.le_of_lt hxl)))).mono (by omega)) ((HA'.out.below (hwx.trans (hW.mono (by omega)))).mono (by omega))
          rw [(sameB_iff t t).2 rfl] at this
          exact this)
        have hbwx : b < wx.heap.size := by have := hwx.size; omega
        have hz6x : wr.heap.size ≤ wx.heap.size := hwx.size
        clear hbx x0 x1 HB56 hwx
        go_cut [120] from 77 to 120 (fun v120 wy => v120 = .bool false ∧ Below wx.heap.size wx wy)
        case first =>
          --BEGIN
          refine wp_region_noPanic ?_
          go_region_held3 (fun w' => w'.cell? ⟨w6.heap.size, 0, none⟩ = some (.int .i64 t.head) ∧ w'.cell? ⟨w6.heap.size, 1, none⟩ = some (.slice a6 t.args.length c6) ∧ w'.cell? ⟨b, o + k * 2, none⟩ = some (.int .i64 t.head) ∧ w'.cell? ⟨b, o + k * 2 + 1, none⟩ = some (.slice a' t.args.length c') ∧ Below wx.heap.size wx w')
            (first
              | exact KX.out _ hB
              | exact KX.out _ (Below.refl _ _)
              | exact KX.out _ (Below.refl _ _).drew)
            (first
              | (go_at_call 29; refine (CSM.out _ (‹_ ∧ _ ∧ _ ∧ _ ∧ Below wx.heap.size wx _›.2.2.2.2)).mono ?_; rintro e u2 ⟨rfl, hu⟩; have hB := (‹_ ∧ _ ∧ _ ∧ _ ∧ Below wx.heap.size wx _›.2.2.2.2).trans (hu.mono (‹_ ∧ _ ∧ _ ∧ _ ∧ Below wx.heap.size wx _›.2.2.2.2).size))
              | (go_at_call 25; refine (CS.out _ _ (HGX.out _ (‹_ ∧ _ ∧ _ ∧ _ ∧ Below wx.heap.size wx _›.2.2.2.2))).mono ?_; rintro e u2 ⟨rfl, rfl⟩))
          all_goals
            refine NoPanic.normal ?_
            have h7 := ‹_ ∧ _ ∧ _ ∧ _ ∧ Below wx.heap.size wx _›.2.2.2.2
            go_wp2
            go_meet
            exact ⟨by first | rfl | (simp; done) | (simp; omega), h7⟩
          --END
        case rest =>
        obtain ⟨rfl, hb7⟩ := hcut
        have HB7 := Lib.hid hb7
        have hz7 := hb7.size
        clear hb7
        have CA := Lib.hid (bargs_any w.heap.size F4 bb L1 (n : Int) wc (HGX.out wc HB7.out))
        have hwc : Below w.heap.size wr wc := HWX.out.trans (HB7.out.mono (by omega))
        have HWC := Lib.hid hwc
        go_wp2_with fail
        refine CA.out.mono ?_
        rintro e w8 hag
        have hag' : ∃ a8 c8, e = .returned (.tuple #[.slice a8 t.args.length c8, .int .i64 0]) ∧ IsInts w8 (.slice a8 t.args.length c8) (idsOf L1 t) ∧ Below wc.heap.size wc w8 := by
          rcases hag with ⟨_, t', a, c, h1, h2, h3, h4⟩ | ⟨h, _⟩
          · have e1 : t' = t := by
              have h5 := HN.out
              simp only [Int.toNat_natCast] at h1
              rw [h1] at h5
              exact Option.some.inj h5
            subst e1
            exact ⟨a, c, h2, h3, h4⟩
          · exfalso
            have := HQ.out
            rcases chk_cases L1.length (n : Int) with ⟨h', _⟩ | ⟨_, h'⟩ <;> omega
        obtain ⟨a8, c8, rfl, hI8, hb8⟩ := hag'
        have hz8 := hb8.size
        have HI8 := Lib.hid hI8
        have hw8 : Below w.heap.size wr w8 := hwc.trans (hb8.mono (by omega))
        obtain ⟨q0, q1, q2⟩ := KP.out w8 hw8
        have HW8 := Lib.hid hw8
        have HG8 := Lib.hid ((HGX.out wc HB7.out).later hb8)
        clear hag hI8 hb8 hw8 CA hwc
        have hlen8 : ((t.args.length : Int) != (t.args.length : Int)) = false := by simp
        go_wp2
        go_loopw [16] (fun iv wv => ∃ m : Nat, m ≤ t.args.length ∧ iv = .int .i64 m ∧ Below w8.heap.size w8 wv) (fun iv _ => t.args.length - (intOf iv).toNat)
        case atStart => exact ⟨0, Nat.zero_le _, rfl, Below.refl _ _⟩
        case round =>
          obtain ⟨m, hm, rfl, hbv⟩ := hrel
          have hzv := hbv.size
          have hwv : Below w.heap.size _ wr := HW8.out.trans (hbv.mono (by omega))
          have HWV := Lib.hid hwv
          have HBV := Lib.hid hbv
          clear q0 q1 q2
          obtain ⟨q0, q1, q2⟩ := KP.out wr hwv
          clear hwv
          by_cases hmlt : m < t.args.length
          · obtain ⟨b2, o2, s, a2, c2, rfl, hb2n, hs2, hs2w, d1, d2, hA2⟩ := (HA'.out.below HWV.out).elem (i := m) hmlt
            obtain ⟨k2, hk2, hk2n, hk2l⟩ := once_ids HE.out HN.out hs2
            have hnil : ¬ (Value.slice a8 t.args.length c8 = .slice none 0 0 ∧ idsOf L1 t = []) := fun h => by
              have := congrArg List.length h.2
              simp [idsOf] at this
              rw [this] at hmlt
              simp at hmlt
            obtain ⟨g8, cap8, e8, hg8, hn8, hcap8, hcell8⟩ := (show _ ∨ _ from HI8.out).resolve_left hnil
            have hidl : (idsOf L1 t).length = t.args.length := by simp [idsOf]
            rw [hidl] at e8 hn8
            simp only [Value.slice.injEq] at e8
            obtain ⟨rfl, _, rfl⟩ := e8
            unfold maxLen at hcap8
            have d8 : wr.cell? ⟨g8, m, none⟩ = some (.int .i64 (k2 : Int)) := Mm.cell_via hbv hg8 (hcell8 m k2 hk2)
            have hg8v : g8 < wr.heap.size := by omega
            have hm0 : (0 : Int) ≤ (m : Int) := Int.natCast_nonneg _
            have hm1 : (m : Int) < (t.args.length : Int) := by omega
            have hkk0 : (0 : Int) ≤ (k2 : Int) := Int.natCast_nonneg _
            have hkk1 : (k2 : Int) < (n : Int) := by omega
            have hkk2 : decide (n ≤ k2) = false := decide_eq_false (by omega)
            have hkk3 : decide ((k2 : Int) < 0) = false := decide_eq_false (by omega)
            have hs2z : s.size ≤ 500 := by have := T.size_lt_of_mem hs2; have := T.size_eq t; omega
            have CT := bterm_any w.heap.size F4 bb L1 (k2 : Int) wr (by omega) (HG8.out.later hbv)
            have CT' := Lib.hid (show Calls Try.prog 19 #[.pointer (some ⟨bb, 0, none⟩), .int .i64 (k2 : Int)] wr (fun e w' => ∃ a c, e = .returned (.tuple #[tm s.head a s.args.length c, .int .i64 0]) ∧ IsArgs w'.heap.size w' s.args a c ∧ Below wr.heap.size wr w') from CT.mono fun e w' h => by
              rcases h with ⟨_, t', a, c, h1, h2, h3, h4⟩ | ⟨h, _⟩
              · have e1 : t' = s := by
                  have h5 := hk2l
                  simp only [Int.toNat_natCast] at h1
                  rw [h1] at h5
                  exact Option.some.inj h5
                subst e1
                exact ⟨a, c, h2, h3.toArgs (fun b hb => hb.2), h4⟩
              · exfalso
                have := HQ.out
                rcases chk_cases L1.length (k2 : Int) with ⟨h', _⟩ | ⟨_, h'⟩ <;> omega)
            have HS2W := Lib.hid hs2w
            have HA2 := Lib.hid hA2
            have hb2v : b2 < wr.heap.size := by omega
            clear hs2 hs2w hA2 hk2 hk2n hk2l hnil hcell8 hidl CT hbv
            go_wp2_with fail
            refine CT'.out.mono ?_
            rintro e w9 ⟨a9, c9, rfl, hA9, hb9⟩
            have hz9 := hb9.size
            have HA9 := Lib.hid hA9
            have hbx : Below w9.heap.size w9 (w9.alloc (.cells #[.int .i64 s.head, .slice a9 s.args.length c9] 24)) := (Below.refl _ _).alloc (Nat.le_refl _) _
            have x0 : (w9.alloc (.cells #[.int .i64 s.head, .slice a9 s.args.length c9] 24)).cell? ⟨w9.heap.size, 0, none⟩ = some (.int .i64 s.head) := by simp
            have x1 : (w9.alloc (.cells #[.int .i64 s.head, .slice a9 s.args.length c9] 24)).cell? ⟨w9.heap.size, 1, none⟩ = some (.slice a9 s.args.length c9) := by simp
            have hxl : w9.heap.size < (w9.alloc (.cells #[.int .i64 s.head, .slice a9 s.args.length c9] 24)).heap.size := by simp
            have HB9 := Lib.hid hb9
            clear hA9 hb9 CT' q0 q1 q2
            go_wp2_with fail
            generalize w9.alloc (.cells #[.int .i64 s.head, .slice a9 s.args.length c9] 24) = wy at hbx x0 x1 hxl ⊢
            have HVY : Below wr.heap.size wr wy := HB9.out.trans (hbx.mono HB9.out.size)
            have hwy : Below w.heap.size _ wy := HWV.out.trans (HVY.mono (by omega))
            have KY := Lib.hid (show ∀ W, Below wy.heap.size wy W → (W.cell? ⟨w9.heap.size, 0, none⟩ = some (.int .i64 s.head) ∧ W.cell? ⟨w9.heap.size, 1, none⟩ = some (.slice a9 s.args.length c9)) ∧ (W.cell? ⟨b, o + k * 2 + 1, none⟩ = some (.slice (some ⟨b2, o2, none⟩) t.args.length c') ∧ W.cell? ⟨g8, m, none⟩ = some (.int .i64 (k2 : Int))) ∧ (W.cell? ⟨b2, o2 + m * 2, none⟩ = some (.int .i64 s.head) ∧ W.cell? ⟨b2, o2 + m * 2 + 1, none⟩ = some (.slice a2 s.args.length c2)) ∧ Below wy.heap.size wy W from fun W hW => by
              obtain ⟨p0, p1, _⟩ := KP.out W (hwy.trans (hW.mono (by omega)))
              have hvW := HVY.trans (hW.mono HVY.size)
              exact ⟨⟨Mm.cell_via hW hxl x0, Mm.cell_via hW hxl x1⟩, ⟨p1, Mm.cell_via hvW hg8v d8⟩, ⟨Mm.cell_via hvW hb2v d1, Mm.cell_via hvW hb2v d2⟩, hW⟩)
            have CSM2 := Lib.hid (show ∀ W, Below wy.heap.size wy W → Calls Try.prog 29 #[tm s.head a9 s.args.length c9, tm s.head a2 s.args.length c2] W fun e w' => e = .returned (.bool true) ∧ Below W.heap.size W w' from fun W hW => by
              have hz := hW.size
              have := same_any s s (by omega) W.heap.size a9 c9 a2 c2 W (Nat.le_refl _) HS2W.out HS2W.out ((HA9.out.below (hbx.trans (hW.mono (Nat.le_of_lt hxl)))).mono (by omega)) ((HA2.out.below ((HVY.trans (hW.mono HVY.size)).mono (by omega))).mono (by omega))
              rw [(sameB_iff s s).2 rfl] at this
              exact this)
            have hby : b < wy.heap.size := by have := HVY.size; omega
            have hg8y : g8 < wy.heap.size := by have := HVY.size; omega
            have hb2y : b2 < wy.heap.size := by have := HVY.size; omega
            have hzy : wr.heap.size ≤ wy.heap.size := HVY.size
            have HVY' := Lib.hid HVY
            clear hbx x0 x1 HVY hwy d1 d2 d8
            go_cut [184] from 155 to 184 (fun v184 wz => v184 = .bool false ∧ Below wy.heap.size wy wz)
            case first =>
              --BEGIN
              refine wp_region_noPanic ?_
              go_region_held3 (fun w' => (w'.cell? ⟨w9.heap.size, 0, none⟩ = some (.int .i64 s.head) ∧ w'.cell? ⟨w9.heap.size, 1, none⟩ = some (.slice a9 s.args.length c9)) ∧ (w'.cell? ⟨b, o + k * 2 + 1, none⟩ = some (.slice (some ⟨b2, o2, none⟩) t.args.length c') ∧ w'.cell? ⟨g8, m, none⟩ = some (.int .i64 (k2 : Int))) ∧ (w'.cell? ⟨b2, o2 + m * 2, none⟩ = some (.int .i64 s.head) ∧ w'.cell? ⟨b2, o2 + m * 2 + 1, none⟩ = some (.slice a2 s.args.length c2)) ∧ Below wy.heap.size wy w')
                (first
                  | exact KY.out _ hB
                  | exact KY.out _ (Below.refl _ _)
                  | exact KY.out _ (Below.refl _ _).drew)
                (first
                  | (go_at_call 29; refine (CSM2.out _ (‹_ ∧ _ ∧ _ ∧ Below wy.heap.size wy _›.2.2.2)).mono ?_; rintro e u2 ⟨rfl, hu⟩; have hB := (‹_ ∧ _ ∧ _ ∧ Below wy.heap.size wy _›.2.2.2).trans (hu.mono (‹_ ∧ _ ∧ _ ∧ Below wy.heap.size wy _›.2.2.2).size)))
              all_goals
                refine NoPanic.normal ?_
                have h7 := ‹_ ∧ _ ∧ _ ∧ Below wy.heap.size wy _›.2.2.2
                go_wp2
                go_meet
                exact ⟨by first | rfl | (simp; done) | (simp; omega), h7⟩
              --END
            case rest =>
            obtain ⟨rfl, hbz⟩ := hcut
            have HBZ := Lib.hid (HBV.out.trans ((HVY'.out.trans (hbz.mono hzy)).mono hzv))
            clear hbz
            go_wp2
            go_roundw
            case rel => exact ⟨m + 1, by omega, by go_num, HBZ.out⟩
            case measure => simp [intOf]; omega
          · obtain rfl : m = t.args.length := by omega
            go_wp2
            have HB2w := Lib.hid (show ∀ W, Below wr.heap.size wr W → Below w.heap.size w W from fun W hW => HB.out.trans (HWV.out.trans (hW.mono (by omega))))
            have HG2 := Lib.hid (show ∀ W, Below wr.heap.size wr W → BankAt w.heap.size F4 W bb L1 from fun W hW => HG8.out.later (HBV.out.trans (hW.mono (by omega))))
            have KT := Lib.hid (show ∀ W, Below wr.heap.size wr W → W.cell? ⟨b, o + k * 2, none⟩ = some (.int .i64 t.head) ∧ W.cell? ⟨b, o + k * 2 + 1, none⟩ = some (.slice a' t.args.length c') ∧ IsArgs w.heap.size W t.args a' c' from fun W hW => by
              have h1 := HWV.out.trans (hW.mono (show w.heap.size ≤ wr.heap.size by omega))
              obtain ⟨p0, p1, _⟩ := KP.out W h1
              exact ⟨p0, p1, HA'.out.below h1⟩)
            have hww : w.heap.size ≤ wr.heap.size := by omega
            clear q0 q1 q2 HI8
            go_loopw [19] (fun iv wv => ∃ m : Nat, m ≤ k ∧ iv = .int .i64 m ∧ Below wr.heap.size wr wv) (fun iv _ => k - (intOf iv).toNat)
            case atStart => exact ⟨0, Nat.zero_le _, rfl, Below.refl _ _⟩
            case round =>
              obtain ⟨m, hm, rfl, hbv⟩ := hrel
              have hzv' := hbv.size
              have HBV3 := Lib.hid hbv
              clear hbv
              by_cases hmlt : m < k
              · obtain ⟨b2, o2, u, a2, c2, e2, hb2n, hs2, hs2w, d1, d2, hA2⟩ := (HA.out.below (HB2w.out _ HBV3.out)).elem (i := m) (by omega)
                cases e2
                have hm0 : (0 : Int) ≤ (m : Int) := Int.natCast_nonneg _
                have hm1 : (m : Int) < (k : Int) := by omega
                have hm2 : (m : Int) < (ts.length : Int) := by omega
                have huz : u.size ≤ 500 := by have := T.size_lt_of_mem hs2; omega
                have CF := find_any w.heap.size F4 bb L1 u (by omega) w.heap.size a2 c2 wr (by omega) (HG2.out _ HBV3.out) hs2w hA2
                have HS2W := Lib.hid hs2w
                have HA2 := Lib.hid hA2
                have hbw3 : b < wr.heap.size := by omega
                have D := Lib.hid (And.intro d1 d2)
                clear hs2 hs2w hA2
                rcases hfv : findV L1 u with _ | x
                · rw [hfv] at CF
                  have CF' := Lib.hid CF
                  clear hfv CF
                  go_wp2_with fail
                  refine CF'.out.mono ?_
                  rintro e w9 ⟨rfl, hb9⟩
                  have HB9 := Lib.hid hb9
                  have hz9 := hb9.size
                  clear hb9 CF' d1 d2
                  simp only [foundR, Option.isSome_none]
                  go_wp2_with fail
                  go_quiet (fail)
                  go_wp2
                  go_roundw
                  case rel => exact ⟨m + 1, by omega, by go_num, HBV3.out.trans (Go.below_drewN (HB9.out.mono hzv') nq)⟩
                  case measure => simp [intOf]; omega
                · rw [hfv] at CF
                  have CF' := Lib.hid CF
                  have hxn := once_find HE.out HN.out hfv
                  obtain ⟨bv, hbv1, hbv2⟩ : ∃ bv : Bool, ((x : Int) == (n : Int)) = bv ∧ sameB u t = bv := by
                    by_cases hut : u = t
                    · exact ⟨true, by simp [hxn.2 hut], (sameB_iff _ _).2 hut⟩
                    · refine ⟨false, beq_eq_false_iff_ne.2 (fun h => hut (hxn.1 (by omega))), ?_⟩
                      cases hb : sameB u t
                      · rfl
                      · exact absurd ((sameB_iff _ _).1 hb) hut
                  have HBV2 := Lib.hid hbv2
                  clear hfv CF hxn hbv2
                  go_wp2_with fail
                  refine CF'.out.mono ?_
                  rintro e w9 ⟨rfl, hb9⟩
                  have HB9 := Lib.hid (HBV3.out.trans (hb9.mono hzv'))
                  have hz9 := hb9.size
                  clear CF'
                  simp only [foundR, Option.getD_some, Option.isSome_some]
                  go_wp2_with fail
                  have KZ := Lib.hid (show ∀ W, Below w9.heap.size w9 W → (W.cell? ⟨b, o + k * 2, none⟩ = some (.int .i64 t.head) ∧ W.cell? ⟨b, o + k * 2 + 1, none⟩ = some (.slice a' t.args.length c')) ∧ (W.cell? ⟨b, o + m * 2, none⟩ = some (.int .i64 u.head) ∧ W.cell? ⟨b, o + m * 2 + 1, none⟩ = some (.slice a2 u.args.length c2)) ∧ Below w9.heap.size w9 W from fun W hW => by
                    obtain ⟨p0, p1, _⟩ := KT.out W (HB9.out.trans (hW.mono (by omega)))
                    have h9 := hb9.trans (hW.mono hz9)
                    exact ⟨⟨p0, p1⟩, ⟨Mm.cell_via h9 (by simp; omega) D.out.1, Mm.cell_via h9 (by simp; omega) D.out.2⟩, hW⟩)
                  have CSM3 := Lib.hid (show ∀ W, Below w9.heap.size w9 W → Calls Try.prog 29 #[tm u.head a2 u.args.length c2, tm t.head a' t.args.length c'] W fun e w' => e = .returned (.bool bv) ∧ Below W.heap.size W w' from fun W hW => by
                    have hz := hW.size
                    have := same_any u t (by omega) W.heap.size a2 c2 a' c' W (Nat.le_refl _) HS2W.out HW.out ((HA2.out.below ((hb9.trans (hW.mono hz9)).mono (by omega))).mono (by omega)) ((KT.out W (HB9.out.trans (hW.mono (by omega)))).2.2.mono (by omega))
                    rw [HBV2.out] at this
                    exact this)
                  have hbw9 : b < w9.heap.size := by omega
                  clear hb9 d1 d2
                  go_cut [214] from 199 to 214 (fun v214 wz => v214 = .bool false ∧ Below w9.heap.size w9 wz)
                  case first =>
                    --BEGIN
                    refine wp_region_noPanic ?_
                    go_region_held3 (fun w' => (w'.cell? ⟨b, o + k * 2, none⟩ = some (.int .i64 t.head) ∧ w'.cell? ⟨b, o + k * 2 + 1, none⟩ = some (.slice a' t.args.length c')) ∧ (w'.cell? ⟨b, o + m * 2, none⟩ = some (.int .i64 u.head) ∧ w'.cell? ⟨b, o + m * 2 + 1, none⟩ = some (.slice a2 u.args.length c2)) ∧ Below w9.heap.size w9 w')
                      (first
                        | exact KZ.out _ hB
                        | exact KZ.out _ (Below.refl _ _)
                        | exact KZ.out _ (Below.refl _ _).drew)
                      (first
                        | (go_at_call 29; refine (CSM3.out _ (‹_ ∧ _ ∧ Below w9.heap.size w9 _›.2.2)).mono ?_; rintro e u2 ⟨rfl, hu⟩; have hB := (‹_ ∧ _ ∧ Below w9.heap.size w9 _›.2.2).trans (hu.mono (‹_ ∧ _ ∧ Below w9.heap.size w9 _›.2.2).size)))
                    all_goals
                      refine NoPanic.normal ?_
                      have h7 := ‹_ ∧ _ ∧ Below w9.heap.size w9 _›.2.2
                      go_wp2
                      go_meet
                      exact ⟨by simp, h7⟩
                    --END
                  case rest =>
                  obtain ⟨rfl, hbz⟩ := hcut
                  have HBZ := Lib.hid (HB9.out.trans (hbz.mono (by omega)))
                  clear hbz
                  go_wp2
                  go_roundw
                  case rel => exact ⟨m + 1, by omega, by go_num, HBZ.out⟩
                  case measure => simp [intOf]; omega
              · obtain rfl : m = k := by omega
                have hG9 := HG2.out wr HBV3.out
                have hF9 : ∀ i, F4 i → w.heap.size ≤ i ∧ i < wr.heap.size := fun i hi => by have := HF4.out i hi; omega
                have hB9 := HB2w.out wr HBV3.out
                have HFIN := Lib.hid (And.intro hG9 (And.intro hF9 hB9))
                clear hG9 hF9 hB9
                go_wp2
                go_roundw
                case rel => exact ⟨m + 1, F4, L1, by omega, by go_num, HFIN.out.1, HFIN.out.2.1, by have := HLEN.out; have := HSTK.out; have := HL.out; omega, HFIN.out.2.2⟩
                case measure => simp [intOf]; omega
      · obtain ⟨hv, hl⟩ := once_wrong (L := L) hc
        have CP := CPut.out wr F L HG.out HF.out (Below.refl _ _)
        unfold PutPost at CP
        rw [hv, hl] at CP
        have CP' := Lib.hid CP
        have HC := Lib.hid hc
        have hceq : (t.check == 0) = false := by simpa using hc
        clear hv hl CP hc
        go_wp2_with fail
        refine CP'.out.mono ?_
        rintro e w3 ⟨rfl, hG3, hF3⟩
        have hb3 := FrS.since (Below.refl w.heap.size wr) hF3 HF.out hbz
        have hz3 := hF3.size
        have hF3' := fw_bound HF.out hbz hz3
        obtain ⟨q0, q1, q2⟩ := KP.out w3 hb3
        have HG3 := Lib.hid hG3
        have HF3 := Lib.hid hF3'
        have HB3 := Lib.hid hb3
        have CC := Lib.hid (check_any t (by omega) w.heap.size a' c' w3 (by omega) HW.out (HA'.out.below hb3))
        clear hG3 hF3 hb3 hF3' CP' hc1 hc2
        go_wp2_with fail
        refine CC.out.mono ?_
        rintro e w4 ⟨rfl, hb4⟩
        have HB4 := Lib.hid hb4
        clear hb4 CC q0 q1
        go_wp2
        go_roundw
        case rel =>
          have hz4 := HB4.out.size
          refine ⟨k + 1, _, L, by omega, by go_num, HG3.out.later HB4.out, fun i hi => ?_, ?_, HB.out.trans (HB3.out.trans (HB4.out.mono (by omega)))⟩
          · have := HF3.out i hi; omega
          · have := HSTK.out; have := HL.out; omega
        case measure => simp [intOf]; omega
    · obtain rfl : k = ts.length := by omega
      go_wp2_with fail
      refine (awake6_any _).mono ?_
      rintro e w3 ⟨rfl, hb3⟩
      have HB3 := Lib.hid hb3
      clear hb3
      go_wp2
      go_ret
      exact ⟨rfl, HB.out.trans (HB3.out.mono HB.out.size)⟩

end Go.Proofs.Ytkejacodofmlhaa
