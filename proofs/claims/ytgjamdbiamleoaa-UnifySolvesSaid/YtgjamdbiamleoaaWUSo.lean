/- The walk of UnifySolves. -/
import Derived.Test.YtgjamdbiamleoaaWUSi
import Derived.Test.YtgjamdbiamleoaaBnd
namespace Go.Proofs.Ytgjamdbiamleoaa
set_option linter.unusedVariables false
set_option linter.unusedSimpArgs false
open Go.RowKit

theorem thenL_fix {s : Sb} : ∀ (l : Sb), (∀ p ∈ l, thenT s s p.1 = p.2 ∧ p.2.head ≠ -1 - p.1 ∧ p.2.check = 0) → thenL s s (l.map Prod.fst) = l ∧ thenE s s (l.map Prod.fst) = 0
  | [], _ => ⟨rfl, rfl⟩
  | p :: l, h => by
    obtain ⟨h1, h2, h3⟩ := h p (by simp)
    obtain ⟨i1, i2⟩ := thenL_fix l fun q hq => h q (by simp [hq])
    rw [List.map_cons, thenL, thenE, h1, if_neg h2, if_pos h3, i1, i2]
    exact ⟨rfl, rfl⟩
/-- Then of a most general unifier and itself is that. -/
theorem IsMgu.then_self {E : (Int → T) → Prop} {s : Sb} (h : IsMgu E s) (he : errL s = 0) {w w' : World} {e : Ending} (hp : ThenPost s s w e w') : SEPost s 0 w e w' := by
  have hr := h.right he
  rcases hp with ⟨hn, _⟩ | ⟨_, vs, hvs, hp⟩
  · rw [hr] at hn; cases hn
  · have hv : vs = s.map Prod.fst := rising_unique hvs.1 h.rise (fun z => by rw [hvs.2, ← bnd_mem]; simp)
    have hf := thenL_fix (s := s) s (fun p hp => by
      have hl := h.low p hp
      have := h.twice p.1 hl.1
      rw [ofS_mem h.rise hp] at this
      refine ⟨by unfold thenT; rw [ofS_mem h.rise hp]; exact this, ?_, errL_check he p hp⟩
      obtain ⟨i, hi⟩ := List.getElem?_of_mem hp
      exact (rightS_low hr hi).2.2.2)
    rw [hv, hf.1, hf.2] at hp
    rcases hp with ⟨_, hp⟩ | ⟨hn, _⟩
    · exact hp
    · exact absurd rfl hn
theorem solves_none {x y : T} {s : Sb} {b : Bool} {k : Int} (h : MguR x y s b k) (hn : k ≠ 0 ∨ b = false) : s = [] := by
  rcases h with ⟨_, rfl, _⟩ | ⟨_, ⟨_, rfl, _⟩ | ⟨m, hM, ⟨_, rfl, _⟩ | ⟨_, rfl, rfl, rfl⟩⟩⟩
  · rfl
  · rfl
  · rfl
  · rcases hn with hn | hn
    · exact absurd rfl hn
    · cases hn
theorem solves_some {x y : T} {s : Sb} {b : Bool} {k : Int} (h : MguR x y s b k) (hk : k = 0) (hb : b = true) : IsMgu (fun θ => x.sub θ = y.sub θ) s ∧ errL s = 0 ∧ appT s x = appT s y ∧ appE s x = appE s y := by
  rcases h with ⟨_, _, rfl, _⟩ | ⟨hg, ⟨_, _, rfl, _⟩ | ⟨m, hM, ⟨_, _, rfl, _⟩ | ⟨he, rfl, _, _⟩⟩⟩
  · cases hb
  · cases hb
  · cases hb
  · refine ⟨hM, he, ?_⟩
    have hr := hM.right he
    have gx : goodA s x = true := by simp [goodA, hr, hg.1]
    have gy : goodA s y = true := by simp [goodA, hr, hg.2]
    have hu := hM.unif
    unfold appT appE
    rw [if_pos gx, if_pos gy, if_pos gx, if_pos gy, hu]
    exact ⟨rfl, rfl⟩

def SoI (n : Nat) (w : World) (i : Value) (wr : World) : Prop := ∃ k : Nat, k ≤ n ∧ i = .int .i64 k ∧ Below w.heap.size w wr

set_option maxRecDepth 100000 in
set_option maxHeartbeats 8000000 in
theorem unifySolves_walk (x y : T) (a : Option Addr) (c : Nat) (a' : Option Addr) (c' : Nat) (w : World) (hxw : (Lit.int .i64 x.head).wf = true) (hyw : (Lit.int .i64 y.head).wf = true) (hA : IsArgs w.heap.size w x.args a c) (hB : IsArgs w.heap.size w y.args a' c') :
    Calls Try.prog 6 #[tm x.head a x.args.length c, tm y.head a' y.args.length c'] w fun e w' => e = .returned (.bool true) ∧ Below w.heap.size w w' := by
  have HXW := Lib.hid hxw
  have HYW := Lib.hid hyw
  have d0 := ((((Later.below (Below.refl _ w)).and (later_args hB)).and (later_args hA)).push (Below.refl _ _) x.head a x.args.length c).push (Below.refl _ _) y.head a' y.args.length c'
  rw [heap_alloc_size] at d0
  have D := Lib.hid d0
  clear hxw hyw hA hB d0
  go_enter Try.func6, Try.ntmps6
  go_wp2_with fail
  have hsz : ((w.alloc (.cells #[.int .i64 x.head, .slice a x.args.length c] 25)).alloc (.cells #[.int .i64 y.head, .slice a' y.args.length c'] 25)).heap.size = w.heap.size + 1 + 1 := by simp
  generalize (w.alloc (.cells #[.int .i64 x.head, .slice a x.args.length c] 25)).alloc (.cells #[.int .i64 y.head, .slice a' y.args.length c'] 25) = wB at D hsz ⊢
  have d1 := D.out.pushC (Below.refl _ _) #[.int .i64 x.head, .slice a x.args.length c, .int .i64 y.head, .slice a' y.args.length c'] 25
  rw [hsz] at d1
  have D1 := Lib.hid d1
  clear d1 hsz D
  generalize wB.alloc (.cells #[.int .i64 x.head, .slice a x.args.length c, .int .i64 y.head, .slice a' y.args.length c'] 25) = w1 at D1 ⊢
  generalize hb0 : w.heap.size = b0 at D1 ⊢
  have HB0 := Lib.hid hb0
  clear hb0
  refine (few4_any [x, y] w1.heap.size _ 2 w1 (Nat.le_refl _) (two_mem D1.out.now.1 HXW.out HYW.out D1.out.now.2.2.2.1 D1.out.now.2.2.2.2.1)).mono ?_
  rintro e w2 ⟨f1, rfl, hfew, hb⟩
  have D2 := Lib.hid (D1.out.mv hb)
  clear hb D1
  cases f1
  case false =>
    have HQ := Lib.hid D2.out.now.2.2.2.2.2
    clear D2 hfew
    go_wp2
    go_ret
    exact ⟨rfl, by rw [HB0.out]; exact HQ.out⟩
  have hxs : x.size ≤ 1000000000000 := Nat.le_trans (hfew rfl x (by simp)) (by omega)
  have hys : y.size ≤ 1000000000000 := Nat.le_trans (hfew rfl y (by simp)) (by omega)
  clear hfew
  obtain ⟨_, ⟨y0, y1⟩, ⟨x0, x1⟩, _⟩ := D2.out.now
  go_wp2_with fail
  clear y0 y1 x0 x1
  refine (mgu_full x y hxs hys w2.heap.size a c a' c' w2 (Nat.le_refl _) HXW.out HYW.out D2.out.now.2.2.2.1 D2.out.now.2.2.2.2.1).mono ?_
  rintro e w3 ⟨w2', hbb, h3⟩
  obtain ⟨s, b1, k1, as1, cs1, rfl, hS, hb, hR1⟩ := mgu_key h3
  have D3 := Lib.hid (((D2.out.mv hbb).mv hb).and (later_bs hS))
  clear h3 hS hb hbb D2
  by_cases qk : k1 = 0
  case neg =>
    obtain rfl := solves_none hR1 (.inl qk)
    have hne : (k1 == 0) = false := by simpa using qk
    clear hR1
    go_wp2_with fail
    refine (awake4_any w3).mono ?_
    rintro e w4 ⟨rfl, hb⟩
    have HQ := Lib.hid (D3.out w4 hb).2.2.2.2.2.2
    clear hb D3
    go_wp2
    go_ret
    exact ⟨rfl, by rw [HB0.out]; exact HQ.out⟩
  subst qk
  cases hb1 : b1
  case false =>
    obtain rfl := solves_none hR1 (.inr hb1)
    subst hb1
    clear hR1
    go_wp2_with fail
    refine (awake4_any w3).mono ?_
    rintro e w4 ⟨rfl, hb⟩
    have HQ := Lib.hid (D3.out w4 hb).2.2.2.2.2.2
    clear hb D3
    go_wp2
    go_ret
    exact ⟨rfl, by rw [HB0.out]; exact HQ.out⟩
  obtain ⟨hM, hes, hat, hae⟩ := solves_some hR1 rfl hb1
  subst hb1
  have HSS := Lib.hid (errL_small hes)
  have HM := Lib.hid hM
  have HES := Lib.hid hes
  have HAT := Lib.hid hat
  have HAE := Lib.hid hae
  clear hR1 hM hes hat hae
  obtain ⟨_, _, ⟨y0, y1⟩, ⟨x0, x1⟩, _⟩ := D3.out.now
  go_wp2_with fail
  clear y0 y1 x0 x1
  refine (apply_any s HSS.out x hxs w3.heap.size as1 cs1 a c w3 (Nat.le_refl _) D3.out.now.1 HXW.out D3.out.now.2.2.2.2.1).mono ?_
  rintro e w4 ⟨a1, c1, rfl, _, hyA, hb⟩
  have D4 := Lib.hid (D3.out.pushT hb _ a1 c1 hyA)
  clear hb hyA D3
  have hps : (appT s x).size ≤ 1000000000000 := appT_small
  rw [HAE.out, HAT.out] at *
  generalize hx1 : appT s y = p at D4 hps ⊢
  generalize hf : appE s y = f at ⊢
  have HP := Lib.hid hx1
  have HF := Lib.hid hf
  clear hx1 hf
  obtain ⟨_, _, _, _, ⟨y0, y1⟩, _⟩ := D4.out.now
  go_wp2_with fail
  clear y0 y1
  generalize w4.alloc (tmCells p.head a1 p.args.length c1) = w5 at D4 ⊢
  generalize w4.heap.size = b4 at D4 ⊢
  refine (apply_any s HSS.out y hys w5.heap.size as1 cs1 a' c' w5 (Nat.le_refl _) D4.out.now.2.2.1 HYW.out D4.out.now.2.2.2.2.2.2.2.1).mono ?_
  rintro e w6 ⟨a2, c2, rfl, _, hyA, hb⟩
  have D5 := Lib.hid (D4.out.pushT hb _ a2 c2 hyA)
  clear hb hyA D4
  rw [HP.out, HF.out] at *
  clear HP HF HAE HAT
  go_wp2_with fail
  generalize w6.alloc (tmCells p.head a2 p.args.length c2) = w7 at D5 ⊢
  generalize w6.heap.size = b6 at D5 ⊢
  refine (then_any bound_any s s HSS.out HSS.out w7.heap.size as1 cs1 as1 cs1 w7 (Nat.le_refl _) D5.out.now.2.2.2.2.1 D5.out.now.2.2.2.2.1).mono ?_
  rintro e w8 h8
  obtain ⟨a3, c3, rfl, hU, hb⟩ := HM.out.then_self HES.out h8
  have D6 := Lib.hid ((D5.out.mv hb).and (later_bs hU))
  clear h8 hU hb D5
  go_wp2_with fail
  refine (sCheck_any s HSS.out w8.heap.size as1 cs1 w8 (Nat.le_refl _) D6.out.now.2.2.2.2.2.1).mono ?_
  have her : errS s = 0 := by unfold errS; rw [HM.out.right HES.out]; rfl
  rw [her]
  clear her
  rintro e w9 ⟨rfl, hb⟩
  have D7 := Lib.hid (D6.out.mv hb)
  clear hb D6
  go_wp2_with fail
  refine (sameS_any s HSS.out w9.heap.size a3 c3 as1 cs1 w9 (Nat.le_refl _) D7.out.now.1 D7.out.now.2.2.2.2.2.1).mono ?_
  rintro e w10 ⟨rfl, hb⟩
  have D8 := Lib.hid (D7.out.mv hb)
  clear hb D7
  have LF := Lib.hid (show ∀ X, Below w10.heap.size w10 X → IsBs w10.heap.size X s as1 cs1 ∧ Vc b4 p.head a1 p.args.length c1 X ∧ IsArgs X.heap.size X p.args a1 c1 ∧ Vc b6 p.head a2 p.args.length c2 X ∧ IsArgs X.heap.size X p.args a2 c2 ∧ Below b0 w X from fun X hX => by
    have h1 := D8.out X hX
    have h2 := D8.out.now
    exact ⟨h2.2.2.2.2.2.1.below hX, h1.2.2.2.1, h1.2.2.2.2.1, h1.2.1, h1.2.2.1, h1.2.2.2.2.2.2.2.2.2.2.2⟩)
  have hl : s.length ≤ cs1 ∧ cs1 ≤ maxLen := ⟨D8.out.now.2.2.2.2.2.1.1, D8.out.now.2.2.2.2.2.1.2.1⟩
  unfold maxLen at hl
  obtain ⟨hl1, hl2⟩ := hl
  clear D8
  go_wp2
  go_loopw [14, 15] (fun i _ wr => SoI s.length w10 i wr) (fun i _ _ => s.length - (intOf i).toNat)
  case atStart => exact ⟨0, Nat.zero_le _, rfl, Below.refl _ _⟩
  case round =>
    obtain ⟨k, hk, rfl, hB⟩ := hrel
    have HB := Lib.hid hB
    have hbz := hB.size
    clear hB
    by_cases hlt : k < s.length
    · have hk0 : (0 : Int) ≤ (k : Int) := Int.natCast_nonneg _
      have hk1 : (k : Int) < (s.length : Int) := by omega
      obtain ⟨b, o, v, tv, av, cv, rfl, hbn, hsk, hvw, _, hc0, _, _, _⟩ := (LF.out w10 (Below.refl _ _)).1.elem (i := k) hlt
      have HSK := Lib.hid hsk
      have HC0 := Lib.hid hc0
      clear hsk hvw hc0
      go_wp2
      go_loopw [15] (fun i wr => SoI s.length w10 i wr) (fun i _ => s.length - (intOf i).toNat)
      case atStart => exact ⟨0, Nat.zero_le _, rfl, HB.out⟩
      case round =>
        obtain ⟨j, hj, rfl, hB2⟩ := hrel
        have HB2 := Lib.hid hB2
        have hbz2 := hB2.size
        clear hB2
        by_cases hjt : j < s.length
        · have hj0 : (0 : Int) ≤ (j : Int) := Int.natCast_nonneg _
          have hj1 : (j : Int) < (s.length : Int) := by omega
          obtain ⟨b', o', v', t, at_, ct, e', _, hsj, _, htw, _, hc1, hc2, hA'⟩ := (LF.out wr HB2.out).1.elem (i := j) hjt
          obtain ⟨rfl, rfl⟩ : b = b' ∧ o = o' := by cases e'; exact ⟨rfl, rfl⟩
          clear e'
          have hnin := HM.out.not_in (List.mem_of_getElem? HSK.out) (List.mem_of_getElem? hsj)
          have hts := HSS.out _ (List.mem_of_getElem? hsj)
          have HA' := Lib.hid hA'
          have HT := Lib.hid htw
          have KP := Lib.hid (show ∀ W, Below wr.heap.size wr W → W.cell? ⟨b, o + k * 3, none⟩ = some (.int .i64 v) ∧ W.cell? ⟨b, o + j * 3 + 1, none⟩ = some (.int .i64 t.head) ∧ W.cell? ⟨b, o + j * 3 + 2, none⟩ = some (.slice at_ t.args.length ct) ∧ Below wr.heap.size wr W from fun W hW => by
            have hb : b < wr.heap.size := Nat.lt_of_lt_of_le hbn hbz2
            exact ⟨((HB2.out.trans (hW.mono hbz2)).cell hbn).trans HC0.out, (hW.cell hb).trans hc1, (hW.cell hb).trans hc2, hW⟩)
          obtain ⟨own, hown⟩ : ∃ own, varsOf (T.subs 1 t) = own := ⟨_, rfl⟩
          simp only [] at hnin
          rw [hown] at hnin
          have HN := Lib.hid hnin
          have HOWN := Lib.hid hown
          have VC := Lib.hid (show ∀ W, Below wr.heap.size wr W → Calls Try.prog 29 #[tm t.head at_ t.args.length ct] W (varsPost t W) from fun W hW => vars_any t hts W.heap.size at_ ct W (Nat.le_refl _) HT.out (((HA'.out.mono hbz2).below hW).mono hW.size))
          clear hsj htw hA' hc1 hc2 hnin hown
          obtain ⟨k0, k1, k2, _⟩ := KP.out wr (Below.refl _ _)
          go_wp2_with fail
          go_cut [99] from 88 to 99 (fun v99 wx => v99 = .bool false ∧ Below wr.heap.size wr wx)
          case first =>
            refine wp_region_noPanic ?_
            go_region_held3 (fun w' => w'.cell? ⟨b, o + k * 3, none⟩ = some (.int .i64 v) ∧ w'.cell? ⟨b, o + j * 3 + 1, none⟩ = some (.int .i64 t.head) ∧ w'.cell? ⟨b, o + j * 3 + 2, none⟩ = some (.slice at_ t.args.length ct) ∧ Below wr.heap.size wr w')
              (first
                | exact KP.out _ (Below.refl _ _)
                | exact KP.out _ (Below.refl _ _).drew
                | exact KP.out _ hB)
              (first
                | (go_at_call 29; refine (VC.out _ (‹_ ∧ _ ∧ _ ∧ Below wr.heap.size wr _›.2.2.2)).mono ?_; rintro e u1 ⟨vo, rfl, hvo, hu⟩; rw [HOWN.out] at hvo; obtain ⟨ao, co, rfl, hoI, _⟩ := ints_slice hvo; have hB := bl_call (‹_ ∧ _ ∧ _ ∧ Below wr.heap.size wr _›.2.2.2) hu)
                | (go_at_call 28; refine (in_any v own u1.heap.size ao co u1 (Nat.le_refl _) hoI).mono ?_; rintro e u2 ⟨rfl, hu⟩; rw [decide_eq_false HN.out]; have hB := bl_call (‹_ ∧ _ ∧ _ ∧ Below wr.heap.size wr _›.2.2.2) hu; have hfin := hB))
            all_goals
              refine NoPanic.normal ?_
              go_wp2_with fail
              go_meet
              exact ⟨rfl, hfin⟩
          case rest =>
            obtain ⟨rfl, hb⟩ := hcut
            have HB3 := Lib.hid (HB2.out.trans (hb.mono hbz2))
            clear hb KP k0 k1 k2
            go_wp2
            go_roundw
            case rel => exact ⟨j + 1, by omega, by go_num, HB3.out⟩
            case measure => simp [intOf]; omega
        · obtain rfl : j = s.length := by omega
          go_wp2
          go_roundw
          case rel => exact ⟨k + 1, by omega, by go_num, HB2.out⟩
          case measure => simp [intOf]; omega
    · obtain rfl : k = s.length := by omega
      obtain ⟨_, ⟨x0, x1⟩, _, ⟨y0, y1⟩, _⟩ := (LF.out wr HB.out)
      go_wp2_with fail
      clear x0 x1 y0 y1
      refine (awake4_any wr).mono ?_
      rintro e w11 ⟨rfl, hb⟩
      have HB3 := Lib.hid (HB.out.trans (hb.mono hbz))
      clear hb
      by_cases qf : f = 0
      case neg =>
        have hne : (f == 0) = false := by simpa using qf
        go_wp2_with fail
        go_ret
        exact ⟨rfl, by rw [HB0.out]; exact (LF.out w11 HB3.out).2.2.2.2.2⟩
      subst qf
      obtain ⟨_, ⟨x0, x1⟩, _, ⟨y0, y1⟩, _⟩ := (LF.out w11 HB3.out)
      go_wp2_with fail
      clear x0 x1 y0 y1
      refine (sameAt_any p p rfl hps w11.heap.size a1 c1 a2 c2 w11 (Nat.le_refl _) (LF.out w11 HB3.out).2.2.1 (LF.out w11 HB3.out).2.2.2.2.1).mono ?_
      rintro e w12 ⟨rfl, hb⟩
      have HQ := Lib.hid (LF.out w12 (HB3.out.trans (hb.mono HB3.out.size))).2.2.2.2.2
      clear hb
      go_wp2
      go_ret
      exact ⟨rfl, by rw [HB0.out]; exact HQ.out⟩

end Go.Proofs.Ytgjamdbiamleoaa
