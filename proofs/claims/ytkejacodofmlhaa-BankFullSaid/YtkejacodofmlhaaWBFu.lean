/- The walk of BankFull. -/
import Derived.Test.YtkejacodofmlhaaBkL
import Derived.Test.YtkejacodofmlhaaRef
import Derived.Deep.RegionHeld3
namespace Go.Proofs.Ytkejacodofmlhaa
set_option linter.unusedVariables false
set_option linter.unusedSimpArgs false
open Go.RowKit Go.Maps

def WidePost (v : Nat) (w : World) (e : Ending) (w' : World) : Prop := ∃ b, e = .returned (tm 7 (some ⟨b, 0, none⟩) 2 2) ∧ IsArgsp (fun i => i = b) w' (wd v).args (some ⟨b, 0, none⟩) 2 ∧ w.heap.size ≤ b ∧ b < w'.heap.size ∧ Below w.heap.size w w'

theorem wd_mem {W : World} {v b : Nat} (m0 : W.cell? ⟨b, 0, none⟩ = some (.int .i64 (-1 - (v : Int) % 250))) (m1 : W.cell? ⟨b, 1, none⟩ = some (.slice none 0 0))
    (m2 : W.cell? ⟨b, 2, none⟩ = some (.int .i64 (-1 - (v : Int) / 250 % 250))) (m3 : W.cell? ⟨b, 3, none⟩ = some (.slice none 0 0)) : IsArgsp (fun i => i = b) W (wd v).args (some ⟨b, 0, none⟩) 2 := by
  have a0 : ∀ x, IsArgsp (fun i => i = b) W (vr x).args none 0 := fun x => ⟨by simp [vr, T.args], by simp [maxLen], .inl rfl⟩
  have hwf : ∀ x : Nat, x < 250 → (Lit.int .i64 (vr x).head).wf = true := fun x hx => Mm.wfi.wf (show Mm.wfi (-1 - (x : Int)) from by unfold Mm.wfi; omega)
  refine ⟨by simp [wd, T.args], by simp [maxLen], .inr ⟨b, 0, rfl, rfl, ?_⟩⟩
  simp only [wd, T.args, IsRowp, and_true]
  refine ⟨isTp_iff.2 ⟨hwf _ (by omega), ?_, none, 0, m1, a0 _⟩, isTp_iff.2 ⟨hwf _ (by omega), ?_, none, 0, m3, a0 _⟩⟩
  · rw [m0]; simp [vr, T.head]
  · rw [show (0 + 2 : Nat) = 2 from rfl, m2]; simp [vr, T.head]

set_option maxRecDepth 100000 in
set_option maxHeartbeats 1000000 in
theorem wide_any (v : Nat) (hv : v ≤ 6000) (w : World) : Calls Try.prog 30 #[.int .i64 7, .int .i64 (v : Int)] w (WidePost v w) := by
  have h0 : (0 : Int) ≤ (v : Int) := by omega
  have h1 : (v : Int) ≤ 6000 := by omega
  have h2 : 0 ≤ (v : Int) % 250 := by omega
  have h3 : (v : Int) % 250 ≤ 1000 := by omega
  have h4 : 0 ≤ (v : Int) / 250 % 250 := by omega
  have h5 : (v : Int) / 250 % 250 ≤ 1000 := by omega
  have h6 : 0 ≤ (v : Int) / 250 := by omega
  go_enter Try.func30, Try.ntmps30
  go_wp2_with fail
  refine (var_any _ _ h2 h3).mono ?_
  rintro e w2 ⟨rfl, hb2⟩
  have HB2 := Lib.hid hb2
  clear hb2
  go_wp2_with fail
  refine (var_any _ _ h4 h5).mono ?_
  rintro e w3 ⟨rfl, hb3⟩
  have hb23 : Below (w.heap.size + 1) (w.alloc (tmCells 0 none 0 0)) w3 := by have := HB2.out.size; exact (HB2.out.mono (by simp)).trans (hb3.mono (by simpa using this))
  have r0 := Mm.cell_via hb23 (p := ⟨w.heap.size, 0, none⟩) (v := .int .i64 0) (by simp) (by simp [go_sem])
  have r1 := Mm.cell_via hb23 (p := ⟨w.heap.size, 1, none⟩) (v := .slice none 0 0) (by simp) (by simp [go_sem])
  have r2 := Mm.frozen_via hb23 (p := ⟨w.heap.size, 0, none⟩) (by simp) (by simp [go_sem])
  have r3 := Mm.frozen_via hb23 (p := ⟨w.heap.size, 1, none⟩) (by simp) (by simp [go_sem])
  have hz : w.heap.size < w3.heap.size := by have := hb23.size; simp at this; omega
  have HB := Lib.hid (((Below.refl _ w).alloc (Nat.le_refl _) (tmCells 0 none 0 0)).trans (hb23.mono (by omega)))
  clear hb3 hb23 HB2
  go_wp2
  obtain ⟨ws, hws⟩ : ∃ ws, (w3.setCell ⟨w.heap.size, 0, none⟩ (.int .i64 7)).setCell ⟨w.heap.size, 1, none⟩ (.slice (some ⟨w3.heap.size, 0, none⟩) 2 2) = ws := ⟨_, rfl⟩
  have hsz : ws.heap.size = w3.heap.size := by rw [← hws]; simp
  have s0 : ∀ ob, (ws.alloc ob).cell? ⟨w.heap.size, 0, none⟩ = some (.int .i64 7) := fun ob => (Mm.cell_of_block (a := ⟨w.heap.size, 0, none⟩) (Below.heap_alloc ws ob _ (by simp; omega))).trans (by rw [← hws]; simp [go_sem, r0, r1])
  have s1 : ∀ ob, (ws.alloc ob).cell? ⟨w.heap.size, 1, none⟩ = some (.slice (some ⟨w3.heap.size, 0, none⟩) 2 2) := fun ob => (Mm.cell_of_block (a := ⟨w.heap.size, 1, none⟩) (Below.heap_alloc ws ob _ (by simp; omega))).trans (by rw [← hws]; simp [go_sem, r0, r1])
  have hbs : Below w.heap.size w ws := by rw [← hws]; exact (HB.out.setCell (p := ⟨w.heap.size, 0, none⟩) (by simp) _).setCell (p := ⟨w.heap.size, 1, none⟩) (by simp) _
  rw [hws]
  refine bodyPost_ret (v := tm 7 (some ⟨w3.heap.size, 0, none⟩) 2 2) (by simp [results, Try.results30, go_sem, s0, s1]) rfl ?_
  rw [← hsz]
  exact ⟨ws.heap.size, rfl, wd_mem (by simp) (by simp) (by simp) (by simp), by omega, by simp, hbs.alloc (by omega) _⟩

/-- Where the loop of BankFull stands. -/
def FuI (B bb : Nat) (w : World) (i : Value) (wr : World) : Prop :=
  ∃ (k : Nat) (F : Nat → Prop), k ≤ 3846 ∧ i = .int .i64 k ∧ BankAt B F wr bb (Lk k) ∧ (∀ i, F i → B ≤ i ∧ i < wr.heap.size) ∧ Below B w wr

set_option maxRecDepth 100000 in
set_option maxHeartbeats 4000000 in
theorem bankFull_walk (n : Int) (w : World) (hnw : (Lit.int .i64 n).wf = true) :
    Calls Try.prog 6 #[.int .i64 n] w fun e w' => e = .returned (.bool true) ∧ Below w.heap.size w w' := by
  by_cases hlo : n < 0
  · go_enter Try.func6, Try.ntmps6
    go_wp2
    go_ret
    exact ⟨rfl, Below.refl _ _⟩
  by_cases hhi : 900 < n
  · go_enter Try.func6, Try.ntmps6
    go_wp2
    go_ret
    exact ⟨rfl, Below.refl _ _⟩
  obtain ⟨m, rfl⟩ := Int.eq_ofNat_of_zero_le (show 0 ≤ n by omega)
  have hm : m ≤ 900 := by omega
  have hm0 : (0 : Int) ≤ (m : Int) := by omega
  have hm9 : (m : Int) ≤ 900 := by omega
  clear hnw hlo hhi
  go_enter Try.func6, Try.ntmps6
  go_wp2_with fail
  refine (new_any _).mono ?_
  rintro e w1 ⟨bb, rfl, hG1, hb1⟩
  have HST := Lib.hid (show FuI w.heap.size bb w (.int .i64 ((0 : Nat) : Int)) w1 from ⟨0, _, by omega, rfl, hG1, fun i hi => hi, hb1⟩)
  clear hG1 hb1
  go_wp2
  go_loopw [5] (fun i wr => FuI w.heap.size bb w i wr) (fun i _ => 6000 - (intOf i).toNat)
  case atStart => exact HST.out
  case round =>
    obtain ⟨k, F, hk, rfl, hG, hF, hB⟩ := hrel
    have HG := Lib.hid hG
    have HF := Lib.hid hF
    have HB := Lib.hid hB
    have CS := bsize_any wr hG
    obtain ⟨q, hq⟩ : ∃ q, (Lk k).length = q := ⟨_, rfl⟩
    rw [hq] at CS
    rw [Lk_len] at hq
    have HCS := Lib.hid CS
    clear hG hF hB CS HST
    have hk6 : (k : Int) < 6000 := by omega
    have hk0 : (0 : Int) ≤ (k : Int) := by omega
    by_cases hlt : k < 3846
    · have hs1 : (q : Int) < 4096 := by omega
      clear hq
      obtain ⟨j, hj⟩ := put_wd hlt
      have HJ := Lib.hid hj
      clear hj
      go_wp2_with fail
      refine HCS.out.mono ?_
      rintro e wz ⟨rfl, rfl⟩
      clear HCS
      go_wp2_with fail
      refine (wide_any k (by omega) _).mono ?_
      rintro e w3 ⟨b, rfl, hA3, hb3, hlt3, hB3⟩
      have CP := Lib.hid (show Calls Try.prog 15 #[.pointer (some ⟨bb, 0, none⟩), tm 7 (some ⟨b, 0, none⟩) 2 2] w3 (fun e w' => e = .returned (.tuple #[.int .i64 (j : Int), .int .i64 0]) ∧ BankAt w.heap.size (Fw F w3 w') w' bb (Lk (k + 1)) ∧ FrS F w3 w')
        from put6_any HJ.out (by simp [wd, vr, T.size, T.sizes]) (by have := HB.out.size; have := hB3.size; omega) (HG.out.later hB3) (ok := fun i => i = b) (fun i hi => ⟨by omega, fun e => by have := (HF.out i e).2; omega⟩) (by simp only [wd, T.head]; decide) hA3)
      have HB3 := Lib.hid (HB.out.trans (hB3.mono HB.out.size))
      have HZ3 := Lib.hid hB3.size
      clear hA3 hb3 hlt3 hB3
      go_wp2_with fail
      refine CP.out.mono ?_
      rintro e w4 ⟨rfl, hG4, hF4⟩
      have HG4 := Lib.hid hG4
      have HF4 := Lib.hid hF4
      clear hG4 hF4 CP
      go_wp2
      go_roundw
      case rel =>
        have hz4 := HF4.out.size
        have hz3 := HZ3.out
        refine ⟨k + 1, _, by omega, by go_num, HG4.out, fun i hi => ?_, HB3.out.trans (HF4.out.below (by have := HB3.out.size; omega) (fun i hi => (HF.out i hi).1))⟩
        rcases hi with hi | hi
        · have := HF.out i hi; omega
        · have := HB3.out.size; omega
      case measure => simp [intOf]; omega
    · have hK : k = 3846 := by omega
      have hs1 : ¬ (q : Int) < 4096 := by omega
      clear hq
      have HK := Lib.hid hK
      obtain ⟨j, hj0, hj⟩ := put_again hK hm
      have HJ0 := Lib.hid hj0
      have HJ := Lib.hid hj
      have HN := Lib.hid (put_full hK (h := (m : Int) + 100) (by omega) (by omega))
      clear hj0 hj hlt hK
      go_wp2_with fail
      refine HCS.out.mono ?_
      rintro e wz ⟨rfl, rfl⟩
      clear HCS
      go_wp2_with fail
      refine (fun_any ((m : Int) + 100) _ _ _ _).mono ?_
      rintro e w3 ⟨rfl, hb3⟩
      have hz3 := hb3.size
      have CP := Lib.hid (show Calls Try.prog 15 #[.pointer (some ⟨bb, 0, none⟩), tm ((m : Int) + 100) none 0 0] w3 (fun e w' => e = .returned (.tuple #[.int .i64 0, .int .i64 9]) ∧ BankAt w.heap.size (Fw F w3 w') w' bb (Lk k) ∧ FrS F w3 w')
        from put6_any (t := .node ((m : Int) + 100) []) HN.out (by simp [T.size, T.sizes]) (by have := HB.out.size; omega) (HG.out.later hb3) (ok := fun _ => False) (fun i hi => hi.elim) (Mm.wfi.wf (show Mm.wfi ((m : Int) + 100) from by unfold Mm.wfi; omega)) ⟨by simp [T.args], by simp [maxLen], .inl rfl⟩)
      have HB3 := Lib.hid (HB.out.trans (hb3.mono HB.out.size))
      clear hb3
      go_wp2_with fail
      refine CP.out.mono ?_
      rintro e w4 ⟨rfl, hG4, hF4⟩
      have hz4 := hF4.size
      have HB4 := Lib.hid (HB3.out.trans (hF4.below (by have := HB3.out.size; omega) (fun i hi => (HF.out i hi).1)))
      have HF4 := Lib.hid (show ∀ i, Fw F w3 w4 i → w.heap.size ≤ i ∧ i < w4.heap.size from fun i hi => by
        rcases hi with hi | hi
        · have := HF.out i hi; omega
        · have := HB3.out.size; omega)
      have HG4 := Lib.hid hG4
      clear hG4 hF4 CP
      go_wp2_with fail
      refine (wide_any m (by omega) _).mono ?_
      rintro e w5 ⟨b, rfl, hA5, hb5, hlt5, hB5⟩
      have hz5 := hB5.size
      have CP := Lib.hid (show Calls Try.prog 15 #[.pointer (some ⟨bb, 0, none⟩), tm 7 (some ⟨b, 0, none⟩) 2 2] w5 (fun e w' => e = .returned (.tuple #[.int .i64 (j : Int), .int .i64 0]) ∧ BankAt w.heap.size (Fw (Fw F w3 w4) w5 w') w' bb (Lk k) ∧ FrS (Fw F w3 w4) w5 w')
        from put6_any HJ.out (by simp [wd, vr, T.size, T.sizes]) (by have := HB4.out.size; omega) (HG4.out.later hB5) (ok := fun i => i = b) (fun i hi => ⟨by omega, fun e => by have := (HF4.out i e).2; omega⟩) (by simp only [wd, T.head]; decide) hA5)
      have HB5 := Lib.hid (HB4.out.trans (hB5.mono HB4.out.size))
      clear hA5 hb5 hlt5 hB5
      go_wp2_with fail
      refine CP.out.mono ?_
      rintro e w6 ⟨rfl, hG6, hF6⟩
      have HB6 := Lib.hid (HB5.out.trans (hF6.below (by have := HB5.out.size; omega) (fun i hi => (HF4.out i hi).1)))
      have CT := bterm_any _ _ bb (Lk k) (j : Int) w6 (by have := HB6.out.size; omega) hG6
      have hjl : j < (Lk k).length := (List.getElem?_eq_some_iff.1 HJ0.out).1
      have CT' := Lib.hid (show Calls Try.prog 19 #[.pointer (some ⟨bb, 0, none⟩), .int .i64 (j : Int)] w6 (fun e w' => ∃ a c, e = .returned (.tuple #[tm 7 a 2 c, .int .i64 0]) ∧ IsArgs w'.heap.size w' (wd m).args a c ∧ Below w6.heap.size w6 w') from CT.mono fun e w' h => by
        rcases h with ⟨_, t, a, c, h1, h2, h3, h4⟩ | ⟨h, _⟩
        · have e1 : t = wd m := by
            have h5 := HJ0.out
            simp only [Int.toNat_natCast] at h1
            rw [h1] at h5
            exact Option.some.inj h5
          subst e1
          exact ⟨a, c, h2, h3.toArgs (fun b hb => hb.2), h4⟩
        · exfalso
          rcases chk_cases (Lk k).length (j : Int) with ⟨h', _⟩ | ⟨_, h'⟩ <;> omega)
      have hlen := full_len HK.out
      have HG6 := Lib.hid (show ∀ W, Below w6.heap.size w6 W → Calls Try.prog 25 #[.pointer (some ⟨bb, 0, none⟩)] W fun e w' => e = .returned (.int .i64 4096) ∧ w' = W from fun W hW => by
        have := bsize_any W (hG6.later hW)
        rw [hlen] at this
        exact this)
      clear hG6 hF6 CP CT hlen hjl
      go_wp2_with fail
      refine CT'.out.mono ?_
      rintro e w7 ⟨a7, c7, rfl, hA7, hb7⟩
      have HA7 := Lib.hid hA7
      have HB7 := Lib.hid hb7
      clear hA7 hb7 CT'
      go_wp2_with fail
      have hbx : Below w7.heap.size w7 (w7.alloc (.cells #[.int .i64 7, .slice a7 2 c7] 24)) := (Below.refl _ _).alloc (Nat.le_refl _) _
      have x0 : (w7.alloc (.cells #[.int .i64 7, .slice a7 2 c7] 24)).cell? ⟨w7.heap.size, 0, none⟩ = some (.int .i64 7) := by simp
      have x1 : (w7.alloc (.cells #[.int .i64 7, .slice a7 2 c7] 24)).cell? ⟨w7.heap.size, 1, none⟩ = some (.slice a7 2 c7) := by simp
      have hxl : w7.heap.size < (w7.alloc (.cells #[.int .i64 7, .slice a7 2 c7] 24)).heap.size := by simp
      generalize w7.alloc (.cells #[.int .i64 7, .slice a7 2 c7] 24) = wx at hbx x0 x1 hxl ⊢
      have KP := Lib.hid (show ∀ W, Below wx.heap.size wx W → W.cell? ⟨w7.heap.size, 0, none⟩ = some (.int .i64 7) ∧ W.cell? ⟨w7.heap.size, 1, none⟩ = some (.slice a7 2 c7) ∧ Below wx.heap.size wx W from fun W hW => ⟨Mm.cell_via hW hxl x0, Mm.cell_via hW hxl x1, hW⟩)
      have CSZ := Lib.hid (show ∀ W, Below wx.heap.size wx W → Calls Try.prog 25 #[.pointer (some ⟨bb, 0, none⟩)] W fun e w' => e = .returned (.int .i64 4096) ∧ w' = W from fun W hW => HG6.out W (HB7.out.trans ((hbx.trans (hW.mono (Nat.le_of_lt hxl))).mono HB7.out.size)))
      have HWM := Lib.hid (show ∀ W, Below wx.heap.size wx W → IsArgs W.heap.size W (wd m).args a7 c7 from fun W hW => (HA7.out.below (hbx.trans (hW.mono (Nat.le_of_lt hxl)))).mono (Nat.le_trans (Nat.le_of_lt hxl) hW.size))
      have CSM := Lib.hid (show ∀ W b9, Below wx.heap.size wx W → IsArgs W.heap.size W (wd m).args (some ⟨b9, 0, none⟩) 2 → Calls Try.prog 23 #[tm 7 a7 2 c7, tm 7 (some ⟨b9, 0, none⟩) 2 2] W fun e w' => e = .returned (.bool true) ∧ Below W.heap.size W w' from fun W b9 hW hA => by
        have := refSame_any (wd m) (wd m) (by simp [wd, vr, T.size, T.sizes]) (by simp [wd, vr, T.size, T.sizes]) W.heap.size a7 c7 (some ⟨b9, 0, none⟩) 2 W (Nat.le_refl _) (HWM.out W hW) hA
        rw [decide_eq_true (T.cmp_self (wd m))] at this
        exact this)
      have HBX := Lib.hid (HB6.out.trans ((HB7.out.trans (hbx.mono HB7.out.size)).mono HB6.out.size))
      clear hbx x0 x1
      refine wp_region_noPanic ?_
      go_region_held3 (fun w' => w'.cell? ⟨w7.heap.size, 0, none⟩ = some (.int .i64 7) ∧ w'.cell? ⟨w7.heap.size, 1, none⟩ = some (.slice a7 2 c7) ∧ Below wx.heap.size wx w')
        (first
          | exact KP.out _ hB
          | exact KP.out _ (Below.refl _ _)
          | exact KP.out _ (Below.refl _ _).drew)
        (first
          | (go_at_call 26; refine (awake6_any _).mono ?_; rintro e u2 ⟨rfl, hu⟩; have hB := (‹_ ∧ _ ∧ Below wx.heap.size wx _›.2.2).trans (hu.mono (‹_ ∧ _ ∧ Below wx.heap.size wx _›.2.2).size))
          | (go_at_call 25; refine (CSZ.out _ (‹_ ∧ _ ∧ Below wx.heap.size wx _›.2.2)).mono ?_; rintro e u2 ⟨rfl, rfl⟩)
          | (go_at_call 30; refine (wide_any m (by omega) _).mono ?_; rintro e u2 ⟨b9, rfl, hA9, hlo9, hlt9, hu⟩; have hB := (‹_ ∧ _ ∧ Below wx.heap.size wx _›.2.2).trans (hu.mono (‹_ ∧ _ ∧ Below wx.heap.size wx _›.2.2).size))
          | (go_at_call 23; refine (CSM.out _ _ (‹_ ∧ _ ∧ Below wx.heap.size wx _›.2.2) (hA9.toArgs (fun i hi => by omega))).mono ?_; rintro e u2 ⟨rfl, hu⟩; have hB := (‹_ ∧ _ ∧ Below wx.heap.size wx _›.2.2).trans (hu.mono (‹_ ∧ _ ∧ Below wx.heap.size wx _›.2.2).size)))
      all_goals
        have hfin := Lib.hid (HBX.out.trans ((‹_ ∧ _ ∧ Below wx.heap.size wx _›.2.2).mono HBX.out.size))
        refine NoPanic.normal ?_
        go_wp2
        go_ret
        exact ⟨rfl, hfin.out⟩

end Go.Proofs.Ytkejacodofmlhaa
