/- The walk of MatchUnifies. -/
import Derived.Test.YtcbjnfdhghhgeaaCount
import Derived.Test.YtcbjnfdhghhgeaaWMSo
namespace Go.Proofs.Ytcbjnfdhghhgeaa
set_option linter.unusedVariables false
set_option linter.unusedSimpArgs false
open Go.RowKit

/-- With a term without variables, what matches is the most general unifier. -/
theorem MtR.mgu {p t : T} (hv : vars1 t = []) {s : Sb} {b : Bool} {k : Int} (h : MtR p t s b k) : MguR p t s b k := by
  rcases h with ⟨hb, h⟩ | ⟨hg, h⟩
  · exact .inl ⟨hb, h⟩
  refine .inr ⟨hg, ?_⟩
  have hgp := (check_ok hg.1).2.2
  have hgt := (check_ok hg.2).2.2
  have hnh : ∀ h ∈ t.heads, ¬ h < 0 := fun h hh hneg => by
    have : -1 - h ∈ vars1 t := (mem_vars' _ _).2 ⟨by rw [show -1 - (-1 - h) = h from by omega]; exact hh, by omega⟩
    rw [hv] at this
    simp at this
  have ht : ∀ θ : Int → T, t.sub θ = t := fun θ => sub_self _ _ t (Nat.le_refl _) hgt fun g hg1 hg2 => absurd hg2 (hnh g hg1)
  rcases h with ⟨hn, h⟩ | ⟨M, hM, rfl, h⟩
  · exact .inl ⟨fun θ e => (ext_spec hgp).2 hn θ (by rw [e, ht]), h⟩
  · obtain ⟨hk, hc, hkeys, hr, hs, hof⟩ := sm_facts hg.1 hg.2 hM
    have hMs := ext_some hgp hM
    have hmem : ∀ q ∈ sm M, q.2.check = 0 ∧ (0 ≤ q.1 ∧ q.1 ≤ 255) ∧ ∀ h ∈ q.2.heads, ¬ h < 0 := fun q hq => by
      obtain ⟨i, hi⟩ := List.getElem?_of_mem hq
      have h1 := rightS_low hr hi
      refine ⟨h1.2.2.1, ⟨h1.1, h1.2.1⟩, fun h hh hneg => ?_⟩
      obtain ⟨m1, m2, _⟩ := sm_mem.1 hq
      obtain ⟨v1, v2⟩ := (mem_vars' _ _).1 ((hkeys _).1 m1)
      have : h ∈ (p.sub (ofS M)).heads := (heads_sub (ofS M) _ p (Nat.le_refl _) hgp h hneg).2 ⟨_, v1, by omega, by rw [show -1 - (-1 - q.1) = q.1 from by omega, ← m2]; exact hh⟩
      rw [hMs] at this
      exact hnh h this hneg
    refine .inr ⟨sm M, ⟨sm_rise hk, fun q hq => (hmem q hq).2.1, fun q hq => (check_ok (hmem q hq).1).2.2, fun q hq x hx hneg => ?_, fun q hq hneg => ?_, ?_, fun θ hθ v h0 h1 => ?_⟩, .inr ⟨?_, rfl, h.1, h.2⟩⟩
    · exact absurd hneg ((hmem q hq).2.2 _ (by unfold T.heads; exact List.mem_map.2 ⟨x, hx, rfl⟩))
    · exact absurd hneg ((hmem q hq).2.2 _ (by rw [T.heads_eq]; simp))
    · show p.sub _ = t.sub _
      rw [hs, ht]
    · cases hb : bnd (sm M) v
      · rw [ofS_unbound hb, vt_sub h0]
      · have hq := mem_of_bnd (sm_rise hk) hb
        have hgr : (ofS (sm M) v).sub θ = ofS (sm M) v := sub_self _ _ _ (Nat.le_refl _) (check_ok (hmem _ hq).1).2.2 fun g hg1 hg2 => absurd hg2 ((hmem _ hq).2.2 g hg1)
        rw [hgr]
        have hb2 := (sm_bnd.1 hb).1
        obtain ⟨v1, v2⟩ := (mem_vars' _ _).1 ((hkeys _).1 hb2)
        have := sub_inj_vars (f := θ) (g := ofS (sm M)) _ p (Nat.le_refl _) hgp (by rw [hs]; rw [ht] at hθ; exact hθ) (-1 - v) v1 (by omega)
        rw [show -1 - (-1 - v) = v from by omega] at this
        exact this
    · have hcs : ∀ q ∈ sm M, q.2.check = 0 := fun q hq => (hmem q hq).1
      generalize sm M = l at hcs
      induction l with
      | nil => rfl
      | cons q l ih => rw [errL, if_pos (hcs q (by simp))]; exact ih fun q' hq' => hcs q' (by simp [hq'])

set_option maxRecDepth 100000 in
set_option maxHeartbeats 8000000 in
theorem matchUnifies_walk (x y : T) (a : Option Addr) (c : Nat) (a' : Option Addr) (c' : Nat) (w : World) (hxw : (Lit.int .i64 x.head).wf = true) (hyw : (Lit.int .i64 y.head).wf = true) (hA : IsArgs w.heap.size w x.args a c) (hB : IsArgs w.heap.size w y.args a' c') :
    Calls Try.prog 13 #[tm x.head a x.args.length c, tm y.head a' y.args.length c'] w fun e w' => e = .returned (.bool true) ∧ Below w.heap.size w w' := by
  have HXW := Lib.hid hxw
  have HYW := Lib.hid hyw
  have d0 := ((((Later.below (Below.refl _ w)).and (later_args hB)).and (later_args hA)).push (Below.refl _ _) x.head a x.args.length c).push (Below.refl _ _) y.head a' y.args.length c'
  simp only [heap_alloc_size] at d0
  have D := Lib.hid d0
  clear hxw hyw hA hB d0
  go_enter Try.func13, Try.ntmps13
  go_wp2_with fail
  generalize (w.alloc (.cells #[.int .i64 x.head, .slice a x.args.length c] 25)).alloc (.cells #[.int .i64 y.head, .slice a' y.args.length c'] 25) = w1 at D ⊢
  generalize hb0 : w.heap.size = b0 at D ⊢
  have HB0 := Lib.hid hb0
  clear hb0
  refine (few_any x w1.heap.size a c w1 (Nat.le_refl _) D.out.now.2.2.1).mono ?_
  rintro e w2 ⟨rfl, hb⟩
  have D2 := Lib.hid (D.out.mv hb)
  clear hb D
  by_cases hx5 : x.size ≤ 500
  case neg =>
    rw [decide_eq_false hx5]
    have HQ := Lib.hid D2.out.now.2.2.2.2
    clear D2
    go_wp2
    go_ret
    exact ⟨rfl, by rw [HB0.out]; exact HQ.out⟩
  rw [decide_eq_true hx5]
  obtain ⟨⟨y0, y1⟩, ⟨x0, x1⟩, _⟩ := D2.out.now
  go_wp2_with fail
  clear y0 y1 x0 x1
  refine (few_any y w2.heap.size a' c' w2 (Nat.le_refl _) D2.out.now.2.2.2.1).mono ?_
  rintro e w3 ⟨rfl, hb⟩
  have D3 := Lib.hid (D2.out.mv hb)
  clear hb D2
  by_cases hy5 : y.size ≤ 500
  case neg =>
    rw [decide_eq_false hy5]
    have HQ := Lib.hid D3.out.now.2.2.2.2
    clear D3
    go_wp2
    go_ret
    exact ⟨rfl, by rw [HB0.out]; exact HQ.out⟩
  rw [decide_eq_true hy5]
  obtain ⟨⟨y0, y1⟩, ⟨x0, x1⟩, _⟩ := D3.out.now
  go_wp2_with fail
  clear y0 y1 x0 x1
  refine (refVars_any y.size y (Nat.le_refl _) (by omega) w3.heap.size a' c' w3 (Nat.le_refl _) HYW.out D3.out.now.2.2.2.1).mono ?_
  rintro e w4 ⟨ao, co, rfl, hoI, _, hb⟩
  have D4 := Lib.hid (D3.out.mv hb)
  clear hb D3
  rw [T.rv_eq]
  by_cases hv : (varsOf (T.subs 1 y)).length = 0
  case neg =>
    have hpos : (0 : Int) < ((varsOf (T.subs 1 y)).length : Int) := by omega
    generalize (varsOf (T.subs 1 y)).length = n at hpos ⊢
    have HQ := Lib.hid D4.out.now.2.2.2.2
    clear D4 hv hoI
    go_wp2
    go_ret
    exact ⟨rfl, by rw [HB0.out]; exact HQ.out⟩
  have hv0 : vars1 y = [] := List.eq_nil_of_length_eq_zero hv
  have HV := Lib.hid hv0
  rw [hv]
  clear hv hv0 hoI
  obtain ⟨⟨y0, y1⟩, ⟨x0, x1⟩, _⟩ := D4.out.now
  go_wp2_with fail
  clear y0 y1 x0 x1
  refine (match_any x y (by omega) (by omega) w4.heap.size a c a' c' w4 (Nat.le_refl _) HXW.out HYW.out D4.out.now.2.2.1 D4.out.now.2.2.2.1).mono ?_
  rintro e w5 ⟨s, b1, k1, as1, cs1, rfl, hS, hb, hR⟩
  have D5 := Lib.hid ((D4.out.mv hb).and (later_bs hS))
  have R1 := Lib.hid (hR.mgu HV.out)
  clear hb hR D4 hS
  obtain ⟨_, ⟨y0, y1⟩, ⟨x0, x1⟩, _⟩ := D5.out.now
  go_wp2_with fail
  clear y0 y1 x0 x1
  refine (mgu_full x y (by omega) (by omega) w5.heap.size a c a' c' w5 (Nat.le_refl _) HXW.out HYW.out D5.out.now.2.2.2.1 D5.out.now.2.2.2.2.1).mono ?_
  rintro e w6 ⟨w5', hbb, h6⟩
  obtain ⟨s', b2, k2, as2, cs2, rfl, hS, hb, hR2⟩ := mgu_key h6
  obtain ⟨rfl, rfl, rfl⟩ := R1.out.fn hR2
  have D6 := Lib.hid (((D5.out.mv hbb).mv hb).and (later_bs hS))
  clear h6 hS hb hbb hR2 D5
  by_cases qk : k1 = 0
  case neg =>
    have hne : (k1 == 0) = false := by simpa using qk
    clear R1
    go_wp2_with fail
    refine (awake5_any w6).mono ?_
    rintro e w7 ⟨rfl, hb⟩
    have HQ := Lib.hid (D6.out w7 hb).2.2.2.2.2.2
    clear hb D6
    go_wp2
    go_ret
    exact ⟨rfl, by rw [HB0.out]; exact HQ.out⟩
  subst qk
  have hss : ∀ q ∈ s, q.2.size ≤ 1000000000000 := by
    rcases R1.out with ⟨_, rfl, _⟩ | ⟨_, ⟨_, rfl, _⟩ | ⟨m, _, ⟨_, rfl, _⟩ | ⟨he, rfl, _⟩⟩⟩
    · simp
    · simp
    · simp
    · exact errL_small he
  have HSS := Lib.hid hss
  clear hss R1
  go_wp2_with fail
  refine (awake5_any w6).mono ?_
  rintro e w7 ⟨rfl, hb⟩
  have D7 := Lib.hid (D6.out.mv hb)
  clear hb D6
  have hbeq : (b1 == b1) = true := by simp
  go_wp2_with fail
  refine (sameS_any s HSS.out w7.heap.size as1 cs1 as2 cs2 w7 (Nat.le_refl _) D7.out.now.2.1 D7.out.now.1).mono ?_
  rintro e w8 ⟨rfl, hb⟩
  have HQ := Lib.hid (D7.out w8 hb).2.2.2.2.2.2
  clear hb D7
  go_wp2
  go_ret
  exact ⟨rfl, by rw [HB0.out]; exact HQ.out⟩

end Go.Proofs.Ytcbjnfdhghhgeaa
