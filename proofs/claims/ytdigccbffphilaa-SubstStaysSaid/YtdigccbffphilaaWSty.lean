/- The walk of SubstStays. -/
import Derived.Test.YtdigccbffphilaaStv
import Derived.Test.YtdigccbffphilaaAw3
import Derived.Test.YtdigccbffphilaaFewS
import Derived.Test.YtdigccbffphilaaSame
import Derived.Lib.QuietBelow
import Derived.Deep.CutRange
namespace Go.Proofs.Ytdigccbffphilaa
set_option linter.unusedVariables false
set_option linter.unusedSimpArgs false
open Go.RowKit Go.Sort

theorem ints_slice {w : World} {v : Value} {zs : List Int} (h : IsInts w v zs) : ∃ a c, v = .slice a zs.length c ∧ IsIs w.heap.size w zs a c ∧ (a = none → c = 0) := by
  rcases h with ⟨rfl, rfl⟩ | ⟨g, cap, rfl, h2, h3, h4, h5⟩
  · exact ⟨none, 0, rfl, ⟨by simp, by simp [maxLen], .inl rfl⟩, fun _ => rfl⟩
  · exact ⟨_, cap, rfl, ⟨h3, h4, .inr ⟨g, 0, rfl, h2, fun j z hz => by rw [Nat.zero_add]; exact h5 j z hz⟩⟩, fun h => by cases h⟩
theorem varsOf_length (pre : List (Nat × T)) : (varsOf pre).length ≤ pre.length := by
  suffices h : ∀ (pre : List (Nat × T)) (acc : List Int), (pre.foldl varStep acc).length ≤ acc.length + pre.length by simpa [varsOf] using h pre []
  intro pre
  induction pre with
  | nil => intro acc; simp
  | cons x pre ih => intro acc; rw [List.foldl_cons]; have h1 := ih (varStep acc x); have h2 := varStep_length acc x; simp; omega
def vars1 (t : T) : List Int := varsOf (T.subs 1 t)
theorem vars1_length (t : T) : (vars1 t).length ≤ t.size := by have := varsOf_length (T.subs 1 t); rw [T.subs_length] at this; exact this
def allL (s : Sb) (own : List Int) (k : Nat) : List Int := ((own.take k).map (fun z => vars1 (ofS s z))).flatten
theorem allL_succ {s : Sb} {own : List Int} {k : Nat} {z : Int} (h : own[k]? = some z) : allL s own (k + 1) = allL s own k ++ vars1 (ofS s z) := by
  obtain ⟨hk, e⟩ := List.getElem?_eq_some_iff.1 h
  unfold allL
  rw [List.take_succ_eq_append_getElem hk, e]
  simp
theorem mem_all {s : Sb} {t : T} (hg : bad (T.subs 1 t) = false) (v : Int) : v ∈ allL s (vars1 t) (vars1 t).length ↔ v ∈ vars1 (t.sub (ofS s)) := by
  unfold allL
  rw [List.take_length]
  simp only [List.mem_flatten, List.mem_map]
  unfold vars1
  constructor
  · rintro ⟨l, ⟨z, hz, rfl⟩, hv⟩
    obtain ⟨g, hg1, hg2, rfl⟩ := (mem_vars t z).1 hz
    obtain ⟨h, hh1, hh2, rfl⟩ := (mem_vars _ v).1 hv
    exact (mem_vars _ _).2 ⟨h, (heads_sub (ofS s) t.size t (Nat.le_refl _) hg h hh2).2 ⟨g, hg1, hg2, hh1⟩, hh2, rfl⟩
  · intro hv
    obtain ⟨h, hh1, hh2, rfl⟩ := (mem_vars _ v).1 hv
    obtain ⟨g, hg1, hg2, hg3⟩ := (heads_sub (ofS s) t.size t (Nat.le_refl _) hg h hh2).1 hh1
    exact ⟨_, ⟨-1 - g, (mem_vars t _).2 ⟨g, hg1, hg2, rfl⟩, rfl⟩, (mem_vars _ _).2 ⟨h, hg3, hh2, rfl⟩⟩
theorem none_same {s : Sb} {t : T} (hg : bad (T.subs 1 t) = false) (h : ∀ z ∈ vars1 t, ofS s z = vt z) : t.sub (ofS s) = t :=
  sub_self _ t.size t (Nat.le_refl _) hg (fun g hg1 hg2 => h _ ((mem_vars t _).2 ⟨g, hg1, hg2, rfl⟩))
theorem vars_bound {t : T} (hg : bad (T.subs 1 t) = false) {z : Int} (hz : z ∈ vars1 t) : 0 ≤ z ∧ z ≤ 255 := by
  obtain ⟨x, hx, h1, rfl⟩ := (mem_varsOf _ _).1 hz
  unfold bad at hg
  rw [List.any_eq_false] at hg
  have := hg x hx
  simp only [Bool.not_eq_true', Bool.not_eq_false] at this
  simp only [okB, if_pos h1, Bool.and_eq_true, decide_eq_true_iff] at this
  omega

def StI (s : Sb) (own : List Int) (wL : World) (n v i : Value) (wr : World) : Prop :=
  ∃ (k : Nat) (nb : Bool) (vv : Value), k ≤ own.length ∧ i = .int .i64 k ∧ n = .bool nb ∧ v = vv ∧ (nb = true ↔ ∀ j z, j < k → own[j]? = some z → ofS s z = vt z) ∧ wr.ownsRow wL.heap.size 3 1 vv (allL s own k).length ((allL s own k).map (Value.int .i64)) ∧ (allL s own k).length ≤ k * 500 ∧ Below wL.heap.size wL wr
def StJ (n : Nat) (wL : World) (i : Value) (wr : World) : Prop := ∃ k : Nat, k ≤ n ∧ i = .int .i64 k ∧ Below wL.heap.size wL wr

set_option maxRecDepth 100000 in
set_option maxHeartbeats 8000000 in
theorem substStays_walk (s : Sb) (t : T) (as_ : Option Addr) (cs : Nat) (a : Option Addr) (c : Nat) (w : World) (htw : (Lit.int .i64 t.head).wf = true) (hS : IsBs w.heap.size w s as_ cs) (hA : IsArgs w.heap.size w t.args a c) :
    Calls Try.prog 8 #[.slice as_ s.length cs, tm t.head a t.args.length c] w fun e w' => e = .returned (.bool true) ∧ Below w.heap.size w w' := by
  have HTW := Lib.hid htw
  have D := Lib.hid ((((Later.below (Below.refl _ w)).and (later_bs hS)).and (later_args hA)).push (Below.refl _ _) t.head a t.args.length c)
  clear htw hS hA
  go_enter Try.func8, Try.ntmps8
  go_wp2_with fail
  generalize w.alloc (tmCells t.head a t.args.length c) = wB at D ⊢
  generalize hbt : w.heap.size = bt at D ⊢
  have HBT := Lib.hid hbt
  clear hbt
  refine (fewS_any s wB.heap.size as_ cs wB (Nat.le_refl _) D.out.now.2.2.1).mono ?_
  rintro e w1 ⟨f1, rfl, hfew, hb⟩
  have D1 := Lib.hid (D.out.mv hb)
  clear hb D
  cases f1
  case false =>
    have HQ := Lib.hid D1.out.now.2.2.2
    clear D1 hfew
    go_wp2
    go_ret
    exact ⟨rfl, by rw [HBT.out]; exact HQ.out⟩
  have hss := hfew rfl
  have HSS := Lib.hid (show ∀ x ∈ s, x.2.size ≤ 1000000 from fun x hx => Nat.le_trans (hss x hx) (by omega))
  have HSF := Lib.hid hss
  clear hfew hss
  obtain ⟨⟨t0, t1⟩, _⟩ := D1.out.now
  go_wp2_with fail
  clear t0 t1
  refine (few_any t w1.heap.size a c w1 (Nat.le_refl _) D1.out.now.2.1).mono ?_
  rintro e w2 ⟨rfl, hb⟩
  have D2 := Lib.hid (D1.out.mv hb)
  clear hb D1
  have hfew : decide (t.size ≤ 500) = true → t.size ≤ 500 := by simp
  generalize decide (t.size ≤ 500) = f2 at hfew ⊢
  cases f2
  case false =>
    have HQ := Lib.hid D2.out.now.2.2.2
    clear D2 hfew
    go_wp2
    go_ret
    exact ⟨rfl, by rw [HBT.out]; exact HQ.out⟩
  have hts := hfew rfl
  clear hfew
  obtain ⟨⟨t0, t1⟩, _⟩ := D2.out.now
  go_wp2_with fail
  clear t0 t1
  refine (apply_any s HSS.out t (by omega) w2.heap.size as_ cs a c w2 (Nat.le_refl _) D2.out.now.2.2.1 HTW.out D2.out.now.2.1).mono ?_
  rintro e w3 ⟨a1, c1, rfl, hxw, hxA, hb⟩
  have D3 := Lib.hid (D2.out.pushT hb _ a1 c1 hxA)
  have HXW := Lib.hid hxw
  clear hb hxA hxw D2
  generalize hx : appT s t = x at D3 HXW ⊢
  generalize he : appE s t = ek at ⊢
  have HX := Lib.hid hx
  have HE := Lib.hid he
  clear hx he
  obtain ⟨_, _, ⟨t0, t1⟩, _⟩ := D3.out.now
  go_wp2_with fail
  clear t0 t1
  generalize w3.alloc (tmCells x.head a1 x.args.length c1) = w4 at D3 ⊢
  generalize w3.heap.size = b1 at D3 ⊢
  refine (apply_any [] (by simp) t (by omega) w4.heap.size none 0 a c w4 (Nat.le_refl _) (IsBs.nil _ _ _ (by simp [maxLen])) HTW.out D3.out.now.2.2.2.1).mono ?_
  rintro e w5 ⟨a2, c2, rfl, _, hyA, hb⟩
  have D4 := Lib.hid (D3.out.pushT hb _ a2 c2 hyA)
  clear hb hyA D3
  by_cases q : t.check = 0
  case neg =>
    have hg1 : goodA [] t = false := by simp [goodA, q]
    have hg2 : goodA s t = false := by simp [goodA, q]
    have e1 : appE [] t = 1 := by unfold appE; rw [hg1]; rfl
    have e2 : ek = 1 := by rw [← HE.out]; unfold appE; rw [hg2]; rfl
    have e3 : appT [] t = Z0 := by unfold appT; rw [hg1]; rfl
    subst e2
    rw [e3] at D4 ⊢
    rw [e1]
    clear e1 e3 hg1 hg2
    go_wp2_with fail
    generalize w5.alloc (tmCells Z0.head a2 Z0.args.length c2) = w6 at D4 ⊢
    refine (awake3_any w6).mono ?_
    rintro e w7 ⟨rfl, hb⟩
    have HQ := Lib.hid (D4.out w7 hb).2.2.2.2.2.2.2
    clear hb
    go_wp2
    go_ret
    exact ⟨rfl, by rw [HBT.out]; exact HQ.out⟩
  obtain ⟨hck1, _, hgd⟩ := check_ok q
  have hg1 : goodA [] t = true := by simp [goodA, q, rightS]
  have hsv := sub_vt hgd
  have e1 : appE [] t = 0 := by unfold appE; rw [if_pos hg1, hsv, q]
  have e3 : appT [] t = t := by unfold appT endT; rw [if_pos hg1, hsv, if_pos q]
  rw [e3] at D4 ⊢
  rw [e1]
  clear e1 e3 hg1 hsv
  by_cases qe : ek = 0
  case neg =>
    have hne : (ek == 0) = false := by simpa using qe
    clear HE
    go_wp2_with fail
    generalize w5.alloc (tmCells t.head a2 t.args.length c2) = w6 at D4 ⊢
    refine (awake3_any w6).mono ?_
    rintro e w7 ⟨rfl, hb⟩
    have HQ := Lib.hid (D4.out w7 hb).2.2.2.2.2.2.2
    clear hb
    go_wp2
    go_ret
    exact ⟨by simp, by rw [HBT.out]; exact HQ.out⟩
  subst qe
  have hga : goodA s t = true := by
    cases h : goodA s t with
    | true => rfl
    | false => have := HE.out; unfold appE at this; rw [h] at this; cases this
  have hxe : x = t.sub (ofS s) := by
    have h1 := HE.out
    have h2 := HX.out
    unfold appE at h1
    rw [if_pos hga] at h1
    unfold appT endT at h2
    rw [if_pos hga, if_pos h1] at h2
    exact h2.symm
  have hri : rightS 0 s = true := by simp [goodA] at hga; exact hga.1
  have hxs : x.size ≤ 1000000 := by rw [hxe]; exact Nat.le_trans (sub_bound hri hck1) (by omega)
  have HXE := Lib.hid hxe
  have HGD := Lib.hid hgd
  clear HE HX hga hxe hri hgd
  obtain ⟨⟨y0, y1⟩, _, _, _, ⟨t0, t1⟩, _⟩ := D4.out.now
  go_wp2_with fail
  clear t0 t1 y0 y1
  generalize w5.alloc (tmCells t.head a2 t.args.length c2) = w6 at D4 ⊢
  generalize w5.heap.size = b2 at D4 ⊢
  refine (sameAt_any t t rfl (by omega) w6.heap.size a2 c2 a c w6 (Nat.le_refl _) D4.out.now.2.1 D4.out.now.2.2.2.2.2.1).mono ?_
  rintro e w7 ⟨rfl, hb⟩
  have D5 := Lib.hid (D4.out.mv hb)
  clear hb D4
  obtain ⟨_, _, _, _, ⟨t0, t1⟩, _⟩ := D5.out.now
  go_wp2_with fail
  clear t0 t1
  refine (vars_any t (by omega) w7.heap.size a c w7 (Nat.le_refl _) HTW.out D5.out.now.2.2.2.2.2.1).mono ?_
  rintro e w8 ⟨vo, rfl, hvo, hb⟩
  obtain ⟨ao, co, rfl, hoI, _⟩ := ints_slice hvo
  have D6 := Lib.hid ((D5.out.mv hb).and (later_is hoI))
  clear hb D5 hvo hoI
  obtain ⟨own, hown⟩ : ∃ own, varsOf (T.subs 1 t) = own := ⟨_, rfl⟩
  rw [hown] at D6 ⊢
  have HOWN := Lib.hid (show vars1 t = own from hown)
  clear hown
  obtain ⟨_, _, _, ⟨x0, x1⟩, _⟩ := D6.out.now
  go_wp2_with fail
  clear x0 x1
  refine (vars_any x hxs w8.heap.size a1 c1 w8 (Nat.le_refl _) HXW.out D6.out.now.2.2.2.2.1).mono ?_
  rintro e wL ⟨vn, rfl, hvn, hb⟩
  obtain ⟨an, cn, rfl, hnI, _⟩ := ints_slice hvn
  have D7 := Lib.hid ((D6.out.mv hb).and (later_is hnI))
  clear hb D6 hvn hnI
  obtain ⟨now, hnow⟩ : ∃ now, varsOf (T.subs 1 x) = now := ⟨_, rfl⟩
  rw [hnow] at D7 ⊢
  have HNOW := Lib.hid (show vars1 x = now from hnow)
  clear hnow
  have LF := Lib.hid (show ∀ X, Below wL.heap.size wL X → IsIs X.heap.size X now an cn ∧ IsIs X.heap.size X own ao co ∧ Vc b1 x.head a1 x.args.length c1 X ∧ IsArgs X.heap.size X x.args a1 c1 ∧ Vc bt t.head a t.args.length c X ∧ IsArgs X.heap.size X t.args a c ∧ IsBs wL.heap.size X s as_ cs ∧ IsIs wL.heap.size X own ao co ∧ IsIs wL.heap.size X now an cn ∧ Below bt w X from fun X hX => by
    obtain ⟨h1, h2, _, _, h3, h4, h5, h6, _, h8⟩ := D7.out X hX
    obtain ⟨g1, g2, _, _, _, _, _, _, g7, _⟩ := D7.out.now
    exact ⟨h1, h2, h3, h4, h5, h6, g7.below hX, g2.below hX, g1.below hX, h8⟩)
  have hlen : own.length ≤ 500 := by rw [← HOWN.out]; exact Nat.le_trans (vars1_length t) hts
  have hlo : own.length ≤ co ∧ co ≤ maxLen := ⟨D7.out.now.2.1.1, D7.out.now.2.1.2.1⟩
  have hln : now.length ≤ cn ∧ cn ≤ maxLen := ⟨D7.out.now.1.1, D7.out.now.1.2.1⟩
  unfold maxLen at hlo hln
  obtain ⟨ho1, ho2⟩ := hlo
  obtain ⟨hn1, hn2⟩ := hln
  clear D7
  have HB8 := Lib.hid (show ∀ z ∈ own, 0 ≤ z ∧ z ≤ 255 from fun z hz => vars_bound HGD.out (by rw [HOWN.out]; exact hz))
  go_wp2
  go_loopw [11, 12, 13] (fun n v i wr => StI s own wL n v i wr) (fun _ _ i _ => own.length - (intOf i).toNat)
  case atStart => exact ⟨0, true, _, Nat.zero_le _, rfl, rfl, rfl, ⟨fun _ j z h => by omega, fun _ => rfl⟩, by simpa [allL] using World.ownsRow_nil wL wL.heap.size 3 1, by simp [allL], Below.refl _ _⟩
  case round =>
    obtain ⟨k, nb, vv, hk, rfl, rfl, rfl, hnb, hrow, hal, hB⟩ := hrel
    have HNB := Lib.hid hnb
    have HROW := Lib.hid hrow
    have HB := Lib.hid hB
    have hbz := hB.size
    clear hnb hrow hB
    by_cases hlt : k < own.length
    · obtain ⟨b, o, z, rfl, hbn, hz, hcz⟩ := (LF.out wr HB.out).2.2.2.2.2.2.2.1.elem (k := k) hlt
      have hzb := HB8.out z (List.mem_of_getElem? hz)
      have hk0 : (0 : Int) ≤ (k : Int) := Int.natCast_nonneg _
      have hk1 : (k : Int) < (own.length : Int) := by omega
      have HZ := Lib.hid hz
      have hbw : b < wr.heap.size := by omega
      have HCZ := Lib.hid hcz
      clear hz
      go_wp2_with fail
      refine (of_any s z wL.heap.size as_ cs wr hbz (by omega) (by omega) (LF.out wr HB.out).2.2.2.2.2.2.1).mono ?_
      have hus : (ofS s z).size ≤ 1000000 := ofS_size (by omega) HSS.out z
      have huf : (ofS s z).size ≤ 500 := ofS_size (by omega) HSF.out z
      rintro e w2 ⟨au, cu, rfl, huw, huA, hb2⟩
      obtain ⟨u, hu⟩ : ∃ u, ofS s z = u := ⟨_, rfl⟩
      rw [hu] at hus huf huw huA ⊢
      have HU := Lib.hid hu
      have HUW := Lib.hid huw
      have HUA := Lib.hid huA
      obtain ⟨w3, hw3⟩ : ∃ w3, w2.alloc (tmCells u.head au u.args.length cu) = w3 := ⟨_, rfl⟩
      have hb3 : Below wr.heap.size wr w3 := by rw [← hw3]; exact hb2.alloc hb2.size _
      have L3 := Lib.hid (show ∀ X, Below w3.heap.size w3 X → X.cell? ⟨w2.heap.size, 0, none⟩ = some (.int .i64 u.head) ∧ X.cell? ⟨w2.heap.size, 1, none⟩ = some (.slice au u.args.length cu) ∧ IsArgs wL.heap.size X u.args au cu ∧ X.cell? ⟨b, o + k, none⟩ = some (.int .i64 z) ∧ Below wr.heap.size wr X from fun X hX => by
        have h1 := hb3.trans (hX.mono hb3.size)
        have h2 := later_var w2 u.head au u.args.length cu X (by rw [hw3]; exact hX)
        have hn3 : wL.heap.size ≤ w3.heap.size := Nat.le_trans hbz hb3.size
        refine ⟨h2.1, h2.2, ?_, (h1.cell (p := ⟨b, _, none⟩) hbw).trans HCZ.out, h1⟩
        have hA3 : IsArgs wL.heap.size w3 u.args au cu := by rw [← hw3]; exact HUA.out.below ((Below.refl _ _).alloc (Nat.le_trans hbz hb2.size) _)
        exact hA3.below (hX.mono hn3))
      have HZL := Lib.hid (show wL.heap.size ≤ w3.heap.size from Nat.le_trans hbz hb3.size)
      clear hu huw huA hb2 hb3
      have d3 := L3.out w3 (Below.refl _ _)
      obtain ⟨d0, d1, _, d2, _⟩ := d3
      clear hcz
      go_wp2
      have C1 := Lib.hid (show ∀ W, Below w3.heap.size w3 W → Calls Try.prog 36 #[.int .i64 z] W fun e w' => e = .returned (tm (-1 - z) none 0 0) ∧ Below W.heap.size W w' from fun W hW => refVar_any z W (by omega) (by omega))
      have C2 := Lib.hid (show ∀ W, Below w3.heap.size w3 W → Calls Try.prog 35 #[tm u.head au u.args.length cu, tm (-1 - z) none 0 0] W fun e w' => e = .returned (.bool (sameB u (vt z))) ∧ Below W.heap.size W w' from fun W hW => same_any u (vt z) hus wL.heap.size au cu none 0 W (Nat.le_trans HZL.out hW.size) HUW.out (wf_vt (by omega) (by omega)) (L3.out W hW).2.2.1 ⟨by simp [vt, T.args], by simp [maxLen], .inl rfl⟩)
      obtain ⟨sb, hsb⟩ : ∃ sb, sameB u (vt z) = sb := ⟨_, rfl⟩
      rw [hsb] at C2
      have HSB := Lib.hid hsb
      clear hsb
      go_cut [11] from 72 to 81 (fun v11 wx => v11 = .bool (nb && sb) ∧ Below w3.heap.size w3 wx)
      case first =>
        have f1 := fun d os => cell_regrown d0 d os
        have f2 := fun d os => cell_regrown d1 d os
        have f3 := fun d os => cell_regrown d2 d os
        refine wp_region_quiet_below (by kernel_rfl) (by kernel_rfl) ?_
        cases nb
        all_goals
          repeat (quiet_step (first | with_reducible exact Calls.regrown_of (C1.out _ (below_regrown _ _ _)) | with_reducible exact Calls.regrown_of (C2.out _ (below_regrown _ _ _))))
          refine wpQuiet_nil ?_
          intro _ hw'
          obtain ⟨⟨dq, osq⟩, hw''⟩ := hw'
          subst hw''
          go_wp2
          go_meet
          exact ⟨by simp, below_regrown w3 dq osq⟩
      case rest =>
        obtain ⟨rfl, hbx⟩ := hcut
        obtain ⟨nq, hnq⟩ : ∃ nq, (nb && sb) = nq := ⟨_, rfl⟩
        rw [hnq]
        have HNQ := Lib.hid hnq
        have lx := L3.out wc hbx
        have HBX := Lib.hid lx.2.2.2.2
        have hzx : wL.heap.size ≤ wc.heap.size := Nat.le_trans HZL.out hbx.size
        obtain ⟨e0, e1, eA, _, _⟩ := lx
        have HEA := Lib.hid eA
        clear hnq hbx C1 C2 d0 d1 d2 eA
        go_wp2_with fail
        clear e0 e1
        refine (vars_any u hus wL.heap.size au cu wc hzx HUW.out HEA.out).mono ?_
        rintro e w5 ⟨vz, rfl, hvz, hb5⟩
        obtain ⟨az, cz, rfl, hzI, hznil⟩ := ints_slice hvz
        obtain ⟨zs, hzs⟩ : ∃ zs, varsOf (T.subs 1 u) = zs := ⟨_, rfl⟩
        rw [hzs] at hzI ⊢
        have hzl : zs.length ≤ 500 := by rw [← hzs]; exact Nat.le_trans (vars1_length u) huf
        have hB5 : Below wr.heap.size wr w5 := HBX.out.trans (hb5.mono HBX.out.size)
        have hrow5 := ownsRow_later HROW.out hB5
        have HZS := Lib.hid (show vars1 u = zs from hzs)
        have HB5 := Lib.hid hB5
        have hz5 : wL.heap.size ≤ w5.heap.size := Nat.le_trans hbz hB5.size
        have hsum : (allL s own k).length + zs.length ≤ 1000000 := by omega
        clear hvz hb5 hzs hB5
        go_wp2_with (first | (at_builtin; refine wpList_append_is (by rfl) _ _ (by rfl) wL.heap.size u12 _ _ (by rfl) hrow5 zs az cz w5.heap.size (by rfl) hzI hznil hsum hz5 ?_; intro v6 w6 hrow6 hgrow6) | go_in)
        go_roundw
        case rel =>
          refine ⟨k + 1, nq, v6, by omega, by go_num, rfl, rfl, ?_, ?_, ?_, ?_⟩
          · rw [← HNQ.out, Bool.and_eq_true, HNB.out, ← HSB.out, sameB_iff]
            constructor
            · rintro ⟨h1, h2⟩ j y hj hy
              by_cases e : j = k
              · subst e
                rw [HZ.out] at hy
                cases hy
                rw [HU.out]
                exact h2
              · exact h1 j y (by omega) hy
            · intro h
              exact ⟨fun j y hj hy => h j y (by omega) hy, by rw [← HU.out]; exact h k z (by omega) HZ.out⟩
          · rw [allL_succ HZ.out, HU.out, HZS.out, List.length_append, List.map_append]
            exact hrow6
          · rw [allL_succ HZ.out, HU.out, HZS.out, List.length_append]
            omega
          · exact (HB.out.trans (HB5.out.mono hbz)).grown hgrow6 hz5 (fun g hg => (HROW.out.lt g hg).1)
        case measure => simp [intOf]; omega
    · obtain rfl : k = own.length := by omega
      obtain ⟨al, hal2⟩ : ∃ al, allL s own own.length = al := ⟨_, rfl⟩
      have hrow := HROW.out
      rw [hal2] at hrow hal
      obtain ⟨aA, cA, hvv, hAI⟩ := isIs_of_owns hrow
      subst hvv
      have hmem : ∀ v, v ∈ al ↔ v ∈ now := fun v => by
        rw [← hal2, ← HOWN.out, ← HNOW.out, HXE.out]
        exact mem_all HGD.out v
      have hnone : nb = true → x = t := fun h => by
        rw [HXE.out]
        refine none_same HGD.out fun z hz => ?_
        rw [HOWN.out] at hz
        obtain ⟨j, hj⟩ := List.getElem?_of_mem hz
        exact HNB.out.1 h j z (List.getElem?_eq_some_iff.1 hj).1 hj
      have hla : al.length ≤ cA ∧ cA ≤ maxLen := ⟨hAI.1, hAI.2.1⟩
      unfold maxLen at hla
      obtain ⟨hla1, hla2⟩ := hla
      have HMEM := Lib.hid hmem
      have HNONE := Lib.hid hnone
      generalize hwe : wr = wE at hAI HB ⊢
      have GE := Lib.hid (show ∀ X, Below wE.heap.size wE X → IsIs X.heap.size X al aA cA ∧ IsIs X.heap.size X now an cn ∧ Vc b1 x.head a1 x.args.length c1 X ∧ IsArgs X.heap.size X x.args a1 c1 ∧ Vc bt t.head a t.args.length c X ∧ IsArgs X.heap.size X t.args a c ∧ Below bt w X from fun X hX => by
        obtain ⟨g1, _, g3, g4, g5, g6, _, _, _, g10⟩ := LF.out X (HB.out.trans (hX.mono HB.out.size))
        exact ⟨later_is hAI X hX, g1, g3, g4, g5, g6, g10⟩)
      clear hwe hrow hmem hnone hal2 hal HROW hAI hbz LF HB HNB
      go_wp2
      go_loopw [15] (fun i wx => StJ al.length wE i wx) (fun i _ => al.length - (intOf i).toNat)
      case atStart => exact ⟨0, Nat.zero_le _, rfl, Below.refl _ _⟩
      case round =>
        obtain ⟨k, hk, rfl, hB⟩ := hrel
        have HB := Lib.hid hB
        clear hB
        by_cases hlt : k < al.length
        · obtain ⟨g1, g2, _⟩ := GE.out wr HB.out
          obtain ⟨b, o, z, rfl, hbn, hz, hcz⟩ := g1.elem (k := k) hlt
          have hk0 : (0 : Int) ≤ (k : Int) := Int.natCast_nonneg _
          have hk1 : (k : Int) < (al.length : Int) := by omega
          have hin : decide (z ∈ now) = true := by simpa using (HMEM.out z).1 (List.mem_of_getElem? hz)
          have CI := Lib.hid (in_any z now wr.heap.size an cn wr (Nat.le_refl _) g2)
          clear g1 g2 hz
          go_wp2_with fail
          refine CI.out.mono ?_
          rw [hin]
          rintro e w9 ⟨rfl, hb⟩
          have HB9 := Lib.hid (HB.out.trans (hb.mono HB.out.size))
          clear hb
          go_wp2
          go_roundw
          case rel => exact ⟨k + 1, by omega, by go_num, HB9.out⟩
          case measure => simp [intOf]; omega
        · generalize hwf : wr = wF at HB ⊢
          have GF := Lib.hid (show ∀ X, Below wF.heap.size wF X → IsIs X.heap.size X al aA cA ∧ IsIs X.heap.size X now an cn ∧ Vc b1 x.head a1 x.args.length c1 X ∧ IsArgs X.heap.size X x.args a1 c1 ∧ Vc bt t.head a t.args.length c X ∧ IsArgs X.heap.size X t.args a c ∧ Below bt w X from fun X hX => GE.out X (HB.out.trans (hX.mono HB.out.size)))
          clear hwf GE HB
          go_wp2
          go_loopw [16] (fun i wx => StJ now.length wF i wx) (fun i _ => now.length - (intOf i).toNat)
          case atStart => exact ⟨0, Nat.zero_le _, rfl, Below.refl _ _⟩
          case round =>
            obtain ⟨k2, hk2, rfl, hB⟩ := hrel
            have HB := Lib.hid hB
            clear hB
            by_cases hlt2 : k2 < now.length
            · obtain ⟨g1, g2, _⟩ := GF.out wr HB.out
              obtain ⟨b, o, z, rfl, hbn, hz, hcz⟩ := g2.elem (k := k2) hlt2
              have hk0 : (0 : Int) ≤ (k2 : Int) := Int.natCast_nonneg _
              have hk1 : (k2 : Int) < (now.length : Int) := by omega
              have hin : decide (z ∈ al) = true := by simpa using (HMEM.out z).2 (List.mem_of_getElem? hz)
              have CI := Lib.hid (in_any z al wr.heap.size aA cA wr (Nat.le_refl _) g1)
              clear g1 g2 hz
              go_wp2_with fail
              refine CI.out.mono ?_
              rw [hin]
              rintro e w9 ⟨rfl, hb⟩
              have HB9 := Lib.hid (HB.out.trans (hb.mono HB.out.size))
              clear hb
              go_wp2
              go_roundw
              case rel => exact ⟨k2 + 1, by omega, by go_num, HB9.out⟩
              case measure => simp [intOf]; omega
            · go_wp2_with fail
              refine (awake3_any wr).mono ?_
              rintro e w10 ⟨rfl, hb⟩
              have HB10 := Lib.hid (HB.out.trans (hb.mono HB.out.size))
              clear hb
              cases nb
              · have HQ := Lib.hid (GF.out w10 HB10.out).2.2.2.2.2.2
                go_wp2
                go_ret
                exact ⟨by simp, by rw [HBT.out]; exact HQ.out⟩
              · have hxt := HNONE.out rfl
                obtain ⟨_, _, ⟨x0, x1⟩, gx, ⟨t0, t1⟩, gt, _⟩ := GF.out w10 HB10.out
                have CS := Lib.hid (sameAt_any x t hxt hxs w10.heap.size a1 c1 a c w10 (Nat.le_refl _) gx gt)
                clear gx gt hxt
                go_wp2_with fail
                clear x0 x1 t0 t1
                refine CS.out.mono ?_
                rintro e w11 ⟨rfl, hb⟩
                have HQ := Lib.hid (GF.out w11 (HB10.out.trans (hb.mono HB10.out.size))).2.2.2.2.2.2
                clear hb
                go_wp2
                go_ret
                exact ⟨by simp, by rw [HBT.out]; exact HQ.out⟩

end Go.Proofs.Ytdigccbffphilaa
