/- Contract of the reference's Terms, at two that are the same; the walk of MatchVariants. -/
import Derived.Test.YtcbjnfdhghhgeaaCount
import Derived.Test.YtcbjnfdhghhgeaaNvP
import Derived.Test.YtcbjnfdhghhgeaaQ1j
namespace Go.Proofs.Ytcbjnfdhghhgeaa
set_option linter.unusedVariables false
set_option linter.unusedSimpArgs false
open Go.RowKit

def TeI (n : Nat) (w : World) (i : Value) (wr : World) : Prop := ∃ k : Nat, k ≤ n ∧ i = .int .i64 k ∧ Below w.heap.size w wr

set_option maxRecDepth 100000 in
set_option maxHeartbeats 2000000 in
theorem terms_any (ts : List T) (hts : ∀ t ∈ ts, t.size ≤ 1000000000000) (n₀ : Nat) (a : Option Addr) (c : Nat) (a' : Option Addr) (c' : Nat) (w : World) (hn : n₀ ≤ w.heap.size) (hA : IsArgs n₀ w ts a c) (hA' : IsArgs n₀ w ts a' c') :
    Calls Try.prog 40 #[.slice a ts.length c, .slice a' ts.length c'] w fun e w' => e = .returned (.bool true) ∧ Below w.heap.size w w' := by
  have hlc : ts.length ≤ c ∧ c ≤ maxLen := ⟨hA.1, hA.2.1⟩
  have hlc' : ts.length ≤ c' ∧ c' ≤ maxLen := ⟨hA'.1, hA'.2.1⟩
  unfold maxLen at hlc hlc'
  obtain ⟨hl1, hl2⟩ := hlc
  obtain ⟨hl3, hl4⟩ := hlc'
  have HA := Lib.hid hA
  have HA' := Lib.hid hA'
  have HT := Lib.hid hts
  clear hA hA' hts
  go_enter Try.func40, Try.ntmps40
  go_wp2
  go_loopw [5] (fun i wr => TeI ts.length w i wr) (fun i _ => ts.length - (intOf i).toNat)
  case atStart => exact ⟨0, Nat.zero_le _, rfl, Below.refl _ _⟩
  case round =>
    obtain ⟨k, hk, rfl, hB⟩ := hrel
    have HB := Lib.hid hB
    have hbz := hB.size
    clear hB
    by_cases hlt : k < ts.length
    · have hk0 : (0 : Int) ≤ (k : Int) := Int.natCast_nonneg _
      have hk1 : (k : Int) < (ts.length : Int) := by omega
      obtain ⟨b, o, s, a1, c1, rfl, hbn, hs, hsw, hc1, hc2, hA1⟩ := (HA.out.below (HB.out.mono hn)).elem (i := k) hlt
      obtain ⟨b2, o2, s', a2, c2, rfl, hbn2, hs', hsw', hd1, hd2, hA2⟩ := (HA'.out.below (HB.out.mono hn)).elem (i := k) hlt
      obtain rfl : s = s' := by rw [hs] at hs'; exact Option.some.inj hs'
      have CS := Lib.hid (sameAt_any s s rfl (HT.out s (List.mem_of_getElem? hs)) n₀ a1 c1 a2 c2 wr.drew (by show n₀ ≤ wr.heap.size; omega) (hA1.below (Below.refl _ _).drew) (hA2.below (Below.refl _ _).drew))
      have hbw : b < wr.heap.size := by omega
      have hbw2 : b2 < wr.heap.size := by omega
      clear hs hs' hsw hsw' hA1 hA2
      go_wp2_with fail
      go_still_tail 8, (by kernel_rfl)
      change wpList _ _ _ _ _ wr.drew
      go_wp2_with fail
      refine CS.out.mono ?_
      rintro e w2 ⟨rfl, hb2⟩
      have HB2 := Lib.hid (HB.out.trans (((Below.refl wr.heap.size wr).drew.trans hb2).mono hbz))
      clear hb2
      go_wp2
      go_roundw
      case rel => exact ⟨k + 1, by omega, by go_num, HB2.out⟩
      case measure => simp [intOf]; omega
    · obtain rfl : k = ts.length := by omega
      go_wp2
      go_ret
      exact ⟨rfl, HB.out⟩

theorem nrms_one (a : T) : (T.nrms [a] []).1 = [(a.nrm []).1] := by simp [T.nrms]
def CutV (a b : T) (w : World) (v13 v14 : Value) (wx : World) : Prop := ∃ (x : Bool) (k : Int), v13 = .bool x ∧ v14 = .int .i64 k ∧ VarR a b x k ∧ Below w.heap.size w wx

set_option maxRecDepth 100000 in
set_option maxHeartbeats 8000000 in
theorem matchVariants_walk (x y : T) (a : Option Addr) (c : Nat) (a' : Option Addr) (c' : Nat) (w : World) (hxw : (Lit.int .i64 x.head).wf = true) (hyw : (Lit.int .i64 y.head).wf = true) (hA : IsArgs w.heap.size w x.args a c) (hB : IsArgs w.heap.size w y.args a' c') :
    Calls Try.prog 11 #[tm x.head a x.args.length c, tm y.head a' y.args.length c'] w fun e w' => e = .returned (.bool true) ∧ Below w.heap.size w w' := by
  have HXW := Lib.hid hxw
  have HYW := Lib.hid hyw
  have d0 := ((((Later.below (Below.refl _ w)).and (later_args hB)).and (later_args hA)).push (Below.refl _ _) x.head a x.args.length c).push (Below.refl _ _) y.head a' y.args.length c'
  simp only [heap_alloc_size] at d0
  have D := Lib.hid d0
  clear hxw hyw hA hB d0
  go_enter Try.func11, Try.ntmps11
  go_wp2_with fail
  generalize (w.alloc (.cells #[.int .i64 x.head, .slice a x.args.length c] 25)).alloc (.cells #[.int .i64 y.head, .slice a' y.args.length c'] 25) = w1 at D ⊢
  generalize hb0 : w.heap.size = b0 at D ⊢
  have HB0 := Lib.hid hb0
  clear hb0
  refine (few_any x w1.heap.size a c w1 (Nat.le_refl _) D.out.now.2.2.1).mono ?_
  rintro e w2 ⟨rfl, hb⟩
  have D2 := Lib.hid (D.out.mv hb)
  clear hb D
  by_cases hx5 : x.size ≤ 500
  case neg =>
    rw [decide_eq_false hx5]
    have HQ := Lib.hid D2.out.now.2.2.2.2
    clear D2
    go_wp2
    go_ret
    exact ⟨rfl, by rw [HB0.out]; exact HQ.out⟩
  rw [decide_eq_true hx5]
  obtain ⟨⟨y0, y1⟩, ⟨x0, x1⟩, _⟩ := D2.out.now
  go_wp2_with fail
  clear y0 y1 x0 x1
  refine (few_any y w2.heap.size a' c' w2 (Nat.le_refl _) D2.out.now.2.2.2.1).mono ?_
  rintro e w3 ⟨rfl, hb⟩
  have D3 := Lib.hid (D2.out.mv hb)
  clear hb D2
  by_cases hy5 : y.size ≤ 500
  case neg =>
    rw [decide_eq_false hy5]
    have HQ := Lib.hid D3.out.now.2.2.2.2
    clear D3
    go_wp2
    go_ret
    exact ⟨rfl, by rw [HB0.out]; exact HQ.out⟩
  rw [decide_eq_true hy5]
  obtain ⟨⟨y0, y1⟩, ⟨x0, x1⟩, _⟩ := D3.out.now
  go_wp2_with fail
  clear y0 y1 x0 x1
  refine (variant_any x y (by omega) (by omega) w3.heap.size a c a' c' w3 (Nat.le_refl _) HXW.out HYW.out D3.out.now.2.2.1 D3.out.now.2.2.2.1).mono ?_
  rintro e w4 ⟨bv, kv, rfl, hb, hV⟩
  have D4 := Lib.hid (D3.out.mv hb)
  have HV := Lib.hid hV
  clear hb hV D3
  obtain ⟨⟨y0, y1⟩, ⟨x0, x1⟩, _⟩ := D4.out.now
  go_wp2_with fail
  clear y0 y1 x0 x1
  have D5 := Lib.hid (D4.out.pushC (Below.refl _ _) #[.int .i64 x.head, .slice a x.args.length c] 25)
  generalize w4.alloc (.cells #[.int .i64 x.head, .slice a x.args.length c] 25) = w5 at D5 ⊢
  generalize w4.heap.size = b4 at D5 ⊢
  clear D4
  refine (norm_any [x] (by simp [T.sizes]; omega) w5.heap.size _ 1 w5 (Nat.le_refl _) (alone_mem D5.out.now.1 HXW.out D5.out.now.2.2.2.1)).mono ?_
  rintro e w6 ⟨hX, hb⟩
  have D6 := Lib.hid (D5.out.mv hb)
  clear hb D5
  -- the answer for x, in one form
  obtain ⟨xs, kx, ax, cx, rfl, hXI, hXf⟩ : ∃ (xs : List T) (kx : Int) (ax : Option Addr) (cx : Nat), e = .returned (.tuple #[.slice ax xs.length cx, .int .i64 kx]) ∧ IsArgs w6.heap.size w6 xs ax cx ∧ ((x.check ≠ 0 ∧ xs = [] ∧ kx = 1) ∨ (x.check = 0 ∧ xs = [(x.nrm []).1] ∧ kx = 0)) := by
    rcases hX with ⟨h1, h2⟩ | ⟨h1, ax, cx, h2, h3⟩
    · rw [badL_one] at h1
      exact ⟨[], 1, none, 0, h2, ⟨Nat.le_refl _, by simp [maxLen], .inl rfl⟩, .inl ⟨by simpa using h1, rfl, rfl⟩⟩
    · rw [badL_one] at h1
      rw [nrms_one] at h2 h3
      exact ⟨_, 0, ax, cx, h2, h3, .inr ⟨by simpa using h1, rfl, rfl⟩⟩
  have D7 := Lib.hid (D6.out.and (later_args hXI))
  have HXF := Lib.hid hXf
  clear hX hXI hXf D6
  obtain ⟨_, _, ⟨y0, y1⟩, ⟨x0, x1⟩, _⟩ := D7.out.now
  go_wp2_with fail
  clear y0 y1 x0 x1
  have D8 := Lib.hid (D7.out.pushC (Below.refl _ _) #[.int .i64 y.head, .slice a' y.args.length c'] 25)
  generalize w6.alloc (.cells #[.int .i64 y.head, .slice a' y.args.length c'] 25) = w7 at D8 ⊢
  generalize w6.heap.size = b6 at D8 ⊢
  clear D7
  refine (norm_any [y] (by simp [T.sizes]; omega) w7.heap.size _ 1 w7 (Nat.le_refl _) (alone_mem D8.out.now.1 HYW.out D8.out.now.2.2.2.2.2.2.1)).mono ?_
  rintro e w8 ⟨hY, hb⟩
  have D9 := Lib.hid (D8.out.mv hb)
  clear hb D8
  obtain ⟨ys, ky, ay, cy, rfl, hYI, hYf⟩ : ∃ (ys : List T) (ky : Int) (ay : Option Addr) (cy : Nat), e = .returned (.tuple #[.slice ay ys.length cy, .int .i64 ky]) ∧ IsArgs w8.heap.size w8 ys ay cy ∧ ((y.check ≠ 0 ∧ ys = [] ∧ ky = 1) ∨ (y.check = 0 ∧ ys = [(y.nrm []).1] ∧ ky = 0)) := by
    rcases hY with ⟨h1, h2⟩ | ⟨h1, ax, cx, h2, h3⟩
    · rw [badL_one] at h1
      exact ⟨[], 1, none, 0, h2, ⟨Nat.le_refl _, by simp [maxLen], .inl rfl⟩, .inl ⟨by simpa using h1, rfl, rfl⟩⟩
    · rw [badL_one] at h1
      rw [nrms_one] at h2 h3
      exact ⟨_, 0, ax, cx, h2, h3, .inr ⟨by simpa using h1, rfl, rfl⟩⟩
  have D10 := Lib.hid (D9.out.and (later_args hYI))
  have HYF := Lib.hid hYf
  clear hY hYI hYf D9
  by_cases qv : kv = 0
  case neg =>
    have hne : (kv == 0) = false := by simpa using qv
    have hvf : bv = false ∧ (kx = 1 ∨ (kx = 0 ∧ ky = 1)) := by
      rcases HV.out with ⟨h1, h2, h3⟩ | ⟨_, _, h3⟩
      · refine ⟨h2, ?_⟩
        rcases HXF.out with ⟨_, _, e1⟩ | ⟨c1, _, e1⟩
        · exact .inl e1
        · rcases HYF.out with ⟨_, _, e2⟩ | ⟨c2, _, e2⟩
          · exact .inr ⟨e1, e2⟩
          · rcases h1 with h1 | h1
            · exact absurd c1 h1
            · exact absurd c2 h1
      · exact absurd h3 qv
    obtain ⟨rfl, hor⟩ := hvf
    clear HV HXF HYF qv
    go_wp2_with fail
    refine (awake5_any w8).mono ?_
    rintro e w9 ⟨rfl, hb⟩
    have HQ := Lib.hid (D10.out w9 hb).2.2.2.2.2.2.2.2
    clear hb D10
    rcases hor with rfl | ⟨rfl, rfl⟩
    all_goals
      go_wp2
      go_ret
      exact ⟨rfl, by rw [HB0.out]; exact HQ.out⟩
  subst qv
  obtain ⟨hcx, hcy, hbv⟩ : x.check = 0 ∧ y.check = 0 ∧ bv = decide (T.cmp (x.nrm []).1 (y.nrm []).1 = 0) := by
    rcases HV.out with ⟨_, _, h3⟩ | ⟨⟨h1, h2⟩, h3, _⟩
    · cases h3
    · exact ⟨h1, h2, by rw [h3, variant_nrm h1 h2]⟩
  obtain ⟨rfl, rfl⟩ : xs = [(x.nrm []).1] ∧ kx = 0 := by
    rcases HXF.out with ⟨h, _⟩ | ⟨_, h⟩
    · exact absurd hcx h
    · exact h
  obtain ⟨rfl, rfl⟩ : ys = [(y.nrm []).1] ∧ ky = 0 := by
    rcases HYF.out with ⟨h, _⟩ | ⟨_, h⟩
    · exact absurd hcy h
    · exact h
  obtain ⟨n1, n2, n3, n4⟩ := nrm_facts hcx
  obtain ⟨m1, _⟩ := nrm_facts hcy
  have hvar : ((x.ext (x.nrm []).1 []).isSome && ((x.nrm []).1.ext x []).isSome) = true := by
    rw [Bool.and_eq_true, ext_isSome (check_ok hcx).2.2, ext_isSome (check_ok n1).2.2]
    exact ⟨n3, n4⟩
  obtain ⟨nx, hnx⟩ : ∃ nx, (x.nrm []).1 = nx := ⟨_, rfl⟩
  obtain ⟨ny, hny⟩ : ∃ ny, (y.nrm []).1 = ny := ⟨_, rfl⟩
  rw [hnx] at n1 n2 hbv hvar D10
  rw [hny] at hbv m1 D10
  have hnxs : nx.size ≤ 400 := (check_ok n1).1
  have hnys : ny.size ≤ 400 := (check_ok m1).1
  rw [hnx, hny]
  have HBV := Lib.hid hbv
  have HN1 := Lib.hid n1
  have HN2 := Lib.hid n2
  have HCX := Lib.hid hcx
  have HVAR := Lib.hid hvar
  clear HV HXF HYF hcx hcy hbv n1 n2 n3 n4 m1 hnx hny hvar
  simp only [List.length_singleton]
  go_wp2_with fail
  have CN := norm_any [nx] (by simp [T.sizes]; omega) w8.heap.size ax cx w8 (Nat.le_refl _) D10.out.now.2.2.1
  refine CN.mono ?_
  clear CN
  rintro e w9 ⟨hZ, hb⟩
  have D11 := Lib.hid (D10.out.mv hb)
  clear hb D10
  obtain ⟨az, cz, rfl, hZI⟩ : ∃ (az : Option Addr) (cz : Nat), e = .returned (.tuple #[.slice az 1 cz, .int .i64 0]) ∧ IsArgs w9.heap.size w9 [nx] az cz := by
    rcases hZ with ⟨h1, _⟩ | ⟨_, az, cz, h2, h3⟩
    · rw [badL_one] at h1
      exact absurd HN1.out (by simpa using h1)
    · rw [nrms_one, HN2.out] at h2 h3
      exact ⟨az, cz, h2, h3⟩
  have D12 := Lib.hid (D11.out.and (later_args hZI))
  clear hZ hZI D11
  obtain ⟨bx, ox, nx', a6, c6, rfl, hbn, hs, hsw, hc1, hc2, hA6⟩ := D12.out.now.2.2.2.1.elem (i := 0) (by simp)
  obtain rfl : nx = nx' := by simpa using hs
  obtain ⟨by_, oy, ny', a7, c7, rfl, hbn2, hs2, hsw2, hd1, hd2, hA7⟩ := D12.out.now.2.1.elem (i := 0) (by simp)
  obtain rfl : ny = ny' := by simpa using hs2
  clear hs hs2
  rw [Nat.zero_mul, Nat.add_zero] at hc1 hc2 hd1 hd2
  have HSW := Lib.hid hsw
  have HD := Lib.hid (((D12.out.and (later_args hA6)).and (later_args hA7)))
  have KP := Lib.hid (show ∀ W, Below w9.heap.size w9 W → W.cell? ⟨bx, ox, none⟩ = some (.int .i64 nx.head) ∧ W.cell? ⟨bx, ox + 1, none⟩ = some (.slice a6 nx.args.length c6) ∧ W.cell? ⟨by_, oy, none⟩ = some (.int .i64 ny.head) ∧ W.cell? ⟨by_, oy + 1, none⟩ = some (.slice a7 ny.args.length c7) ∧ W.cell? ⟨b0, 0, none⟩ = some (.int .i64 x.head) ∧ W.cell? ⟨b0, 1, none⟩ = some (.slice a x.args.length c) ∧ Below w9.heap.size w9 W from fun W hW => by
    have h := (D12.out W hW).2.2.2.2.2.2.1
    exact ⟨(hW.cell hbn).trans hc1, (hW.cell hbn).trans hc2, (hW.cell hbn2).trans hd1, (hW.cell hbn2).trans hd2, h.1, h.2, hW⟩)
  clear D12 hc1 hc2 hd1 hd2 hsw hsw2 hA6 hA7
  obtain ⟨k0, k1, k2, k3, k4, k5, _⟩ := KP.out w9 (Below.refl _ _)
  have VC := Lib.hid (show ∀ W, Below w9.heap.size w9 W → Calls Try.prog 36 #[tm x.head a x.args.length c, tm nx.head a6 nx.args.length c6] W fun e w' => e = .returned (.tuple #[.bool true, .int .i64 0]) ∧ Below W.heap.size W w' from fun W hW => by
    have h := HD.out W hW
    refine (variant_any x nx (by omega) (by omega) W.heap.size a c a6 c6 W (Nat.le_refl _) HXW.out HSW.out h.2.2.2.2.2.2.2.2.2.1 h.2.1).mono ?_
    rintro e w' ⟨b, k, rfl, hb, hv⟩
    rcases hv with ⟨h1, _⟩ | ⟨_, rfl, rfl⟩
    · rcases h1 with h1 | h1
      · exact absurd HCX.out h1
      · exact absurd HN1.out h1
    · rw [HVAR.out]
      exact ⟨rfl, hb⟩)
  have SC := Lib.hid (show ∀ W, Below w9.heap.size w9 W → Calls Try.prog 19 #[tm nx.head a6 nx.args.length c6, tm ny.head a7 ny.args.length c7] W fun e w' => e = .returned (.bool bv) ∧ Below W.heap.size W w' from fun W hW => by
    have h := HD.out W hW
    rw [HBV.out]
    exact refSame_any nx ny (by omega) (by omega) W.heap.size a6 c6 a7 c7 W (Nat.le_refl _) h.2.1 h.1)
  have TC := Lib.hid (show ∀ W, Below w9.heap.size w9 W → Calls Try.prog 40 #[.slice az 1 cz, .slice (some ⟨bx, ox, none⟩) 1 cx] W fun e w' => e = .returned (.bool true) ∧ Below W.heap.size W w' from fun W hW => by
    have h := HD.out W hW
    exact terms_any [nx] (by intro t ht; simp at ht; subst ht; omega) W.heap.size az cz _ cx W (Nat.le_refl _) h.2.2.1 h.2.2.2.2.2.1)
  go_wp2_with fail
  go_cut [13, 14] from 77 (fun v13 v14 wx => v13 = .bool true ∧ v14 = .int .i64 0 ∧ Below w9.heap.size w9 wx)
  case first =>
    refine wp_region_noPanic ?_
    go_region_held3 (fun w' => w'.cell? ⟨bx, ox, none⟩ = some (.int .i64 nx.head) ∧ w'.cell? ⟨bx, ox + 1, none⟩ = some (.slice a6 nx.args.length c6) ∧ w'.cell? ⟨by_, oy, none⟩ = some (.int .i64 ny.head) ∧ w'.cell? ⟨by_, oy + 1, none⟩ = some (.slice a7 ny.args.length c7) ∧ w'.cell? ⟨b0, 0, none⟩ = some (.int .i64 x.head) ∧ w'.cell? ⟨b0, 1, none⟩ = some (.slice a x.args.length c) ∧ Below w9.heap.size w9 w')
      (first
        | exact KP.out _ hB
        | exact KP.out _ (Below.refl _ _)
        | exact KP.out _ (Below.refl _ _).drew)
      (first
        | (go_at_call 36; refine (VC.out _ (‹_ ∧ _ ∧ _ ∧ _ ∧ _ ∧ _ ∧ Below w9.heap.size w9 _›.2.2.2.2.2.2)).mono ?_; rintro e u2 ⟨rfl, hu⟩; have hB := bl_call (‹_ ∧ _ ∧ _ ∧ _ ∧ _ ∧ _ ∧ Below w9.heap.size w9 _›.2.2.2.2.2.2) hu; have hfin := hB))
    all_goals
      refine NoPanic.normal ?_
      go_wp2_with fail
      go_meet
      exact ⟨rfl, rfl, hfin⟩
  case rest =>
  obtain ⟨rfl, rfl, hb⟩ := hcut
  have HBC := Lib.hid hb
  clear hb k0 k1 k2 k3 k4 k5 VC
  generalize wc = w10 at HBC ⊢
  obtain ⟨k0, k1, k2, k3, k4, k5, _⟩ := KP.out w10 HBC.out
  have hbeq : (bv == bv) = true := by simp
  go_wp2_with fail
  refine wp_region_noPanic ?_
  go_region_held3 (fun w' => w'.cell? ⟨bx, ox, none⟩ = some (.int .i64 nx.head) ∧ w'.cell? ⟨bx, ox + 1, none⟩ = some (.slice a6 nx.args.length c6) ∧ w'.cell? ⟨by_, oy, none⟩ = some (.int .i64 ny.head) ∧ w'.cell? ⟨by_, oy + 1, none⟩ = some (.slice a7 ny.args.length c7) ∧ w'.cell? ⟨b0, 0, none⟩ = some (.int .i64 x.head) ∧ w'.cell? ⟨b0, 1, none⟩ = some (.slice a x.args.length c) ∧ Below w9.heap.size w9 w')
    (first
      | exact KP.out _ hB
      | exact KP.out _ HBC.out
      | exact KP.out _ HBC.out.drew)
    (first
      | (go_at_call 35; refine (awake5_any _).mono ?_; rintro e u1 ⟨rfl, hu⟩; have hB := bl_call (‹_ ∧ _ ∧ _ ∧ _ ∧ _ ∧ _ ∧ Below w9.heap.size w9 _›.2.2.2.2.2.2) hu)
      | (go_at_call 19; refine (SC.out _ (‹_ ∧ _ ∧ _ ∧ _ ∧ _ ∧ _ ∧ Below w9.heap.size w9 _›.2.2.2.2.2.2)).mono ?_; rintro e u1 ⟨rfl, hu⟩; have hB := bl_call (‹_ ∧ _ ∧ _ ∧ _ ∧ _ ∧ _ ∧ Below w9.heap.size w9 _›.2.2.2.2.2.2) hu)
      | (go_at_call 40; refine (TC.out _ (‹_ ∧ _ ∧ _ ∧ _ ∧ _ ∧ _ ∧ Below w9.heap.size w9 _›.2.2.2.2.2.2)).mono ?_; rintro e u1 ⟨rfl, hu⟩; have hB := bl_call (‹_ ∧ _ ∧ _ ∧ _ ∧ _ ∧ _ ∧ Below w9.heap.size w9 _›.2.2.2.2.2.2) hu))
  all_goals
    refine NoPanic.normal ?_
    have HQ := Lib.hid (HD.out _ (‹_ ∧ _ ∧ _ ∧ _ ∧ _ ∧ _ ∧ Below w9.heap.size w9 _›.2.2.2.2.2.2)).2.2.2.2.2.2.2.2.2.2.2
    go_wp2_with fail
    go_ret
    exact ⟨by simp, by rw [HB0.out]; exact HQ.out⟩

end Go.Proofs.Ytcbjnfdhghhgeaa
