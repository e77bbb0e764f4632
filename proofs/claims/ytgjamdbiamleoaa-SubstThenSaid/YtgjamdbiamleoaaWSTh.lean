/- The walk of SubstThen, given the contract of boundVars. -/
import Derived.Test.YtgjamdbiamleoaaCount
import Derived.Test.YtgjamdbiamleoaaThen
import Derived.Test.YtgjamdbiamleoaaAw3
import Derived.Test.YtgjamdbiamleoaaFewS
namespace Go.Proofs.Ytgjamdbiamleoaa
set_option linter.unusedVariables false
set_option linter.unusedSimpArgs false
open Go.RowKit

theorem appT_small {s : Sb} {t : T} : (appT s t).size ≤ 1000000000000 := by
  unfold appT
  split
  · unfold endT
    split
    · rename_i h; exact Nat.le_trans (check_ok h).1 (by omega)
    · simp [Z0, T.size, T.sizes]
  · simp [Z0, T.size, T.sizes]
theorem mem_thenL {s u : Sb} : ∀ {vs : List Int} {p : Int × T}, p ∈ thenL s u vs → p.1 ∈ vs ∧ p.2 = thenT s u p.1 := by
  intro vs
  induction vs with
  | nil => intro p h; simp [thenL] at h
  | cons v vs ih =>
    intro p h
    rw [thenL] at h
    split at h
    · exact ⟨List.mem_cons_of_mem _ (ih h).1, (ih h).2⟩
    · rcases List.mem_cons.1 h with rfl | h
      · exact ⟨by simp, rfl⟩
      · exact ⟨List.mem_cons_of_mem _ (ih h).1, (ih h).2⟩
/-- What one has of Then. -/
theorem then_key {s u : Sb} {w w' : World} {e : Ending} (h : ThenPost s u w e w') : ∃ (x : Sb) (k : Int) (a : Option Addr) (c : Nat), e = .returned (.tuple #[.slice a x.length c, .int .i64 k]) ∧ IsBs w'.heap.size w' x a c ∧ Below w.heap.size w w' ∧ (∀ p ∈ x, p.2.size ≤ 1000000000000) ∧
    (k = 0 → rightS 0 x = true ∧ rightS 0 s = true ∧ rightS 0 u = true ∧ ∀ v, 0 ≤ v → ofS x v = thenT s u v) := by
  rcases h with ⟨hr, a, c, h1, h2, h3⟩ | ⟨hr, vs, hvs, ⟨he, a, c, h1, h2, h3⟩ | ⟨he, a, c, h1, h2, h3⟩⟩
  · exact ⟨[], 1, a, c, h1, h2, h3, by simp, fun h => by cases h⟩
  · rw [Bool.and_eq_true] at hr
    refine ⟨_, 0, a, c, h1, h2, h3, fun p hp => ?_, fun _ => ⟨thenL_right hvs.1 (fun v hv => vs_bound hr.1 hr.2 hvs hv) he, hr.1, hr.2, fun v hv => thenL_all hvs he hv⟩⟩
    obtain ⟨hm, e2⟩ := mem_thenL hp
    rw [e2]
    exact Nat.le_trans (check_ok (thenE_zero he _ hm)).1 (by omega)
  · exact ⟨[], _, a, c, h1, h2, h3, by simp, fun h => absurd h he⟩
theorem app_then {s u x : Sb} {t : T} (hx : rightS 0 x = true) (hs : rightS 0 s = true) (hu : rightS 0 u = true) (hof : ∀ v, 0 ≤ v → ofS x v = thenT s u v) (hf : appE s t = 0) : appT u (appT s t) = appT x t ∧ appE u (appT s t) = appE x t := by
  have hga : goodA s t = true := by
    cases h : goodA s t with
    | true => rfl
    | false => unfold appE at hf; rw [h] at hf; cases hf
  have htc : t.check = 0 := by simp [goodA] at hga; exact hga.2
  have hyc : (t.sub (ofS s)).check = 0 := by unfold appE at hf; rw [if_pos hga] at hf; exact hf
  have hy : appT s t = t.sub (ofS s) := by unfold appT endT; rw [if_pos hga, if_pos hyc]
  have hgu : goodA u (t.sub (ofS s)) = true := by simp [goodA, hu, hyc]
  have hgx : goodA x t = true := by simp [goodA, hx, htc]
  have hsub : (t.sub (ofS s)).sub (ofS u) = t.sub (ofS x) := by
    rw [T.sub_sub]
    exact sub_congr t.size t (Nat.le_refl _) (check_ok htc).2.2 (fun v h0 _ => (hof v h0).symm)
  rw [hy]
  unfold appT appE
  rw [if_pos hgu, if_pos hgx, if_pos hgu, if_pos hgx, hsub]
  exact ⟨rfl, rfl⟩

set_option maxRecDepth 100000 in
set_option maxHeartbeats 8000000 in
theorem substThen_walk0 (BA : BoundAny) (s u : Sb) (t : T) (as_ : Option Addr) (cs : Nat) (au : Option Addr) (cu : Nat) (a : Option Addr) (c : Nat) (w : World) (htw : (Lit.int .i64 t.head).wf = true) (hS : IsBs w.heap.size w s as_ cs) (hU : IsBs w.heap.size w u au cu) (hA : IsArgs w.heap.size w t.args a c) :
    Calls Try.prog 3 #[.slice as_ s.length cs, .slice au u.length cu, tm t.head a t.args.length c] w fun e w' => e = .returned (.bool true) ∧ Below w.heap.size w w' := by
  have HTW := Lib.hid htw
  have HBA := Lib.hid BA
  have D := Lib.hid (((((Later.below (Below.refl _ w)).and (later_bs hU)).and (later_bs hS)).and (later_args hA)).push (Below.refl _ _) t.head a t.args.length c)
  clear htw hS hA hU BA
  go_enter Try.func3, Try.ntmps3
  go_wp2_with fail
  generalize w.alloc (tmCells t.head a t.args.length c) = wB at D ⊢
  generalize hbt : w.heap.size = bt at D ⊢
  have HBT := Lib.hid hbt
  clear hbt
  refine (fewS_any s wB.heap.size as_ cs wB (Nat.le_refl _) D.out.now.2.2.1).mono ?_
  rintro e w1 ⟨f1, rfl, hfew, hb⟩
  have D1 := Lib.hid (D.out.mv hb)
  clear hb D
  cases f1
  case false =>
    have HQ := Lib.hid D1.out.now.2.2.2.2
    clear D1 hfew
    go_wp2
    go_ret
    exact ⟨rfl, by rw [HBT.out]; exact HQ.out⟩
  have HSS := Lib.hid (show ∀ x ∈ s, x.2.size ≤ 1000000000000 from fun x hx => Nat.le_trans (hfew rfl x hx) (by omega))
  clear hfew
  go_wp2_with fail
  refine (fewS_any u w1.heap.size au cu w1 (Nat.le_refl _) D1.out.now.2.2.2.1).mono ?_
  rintro e w1' ⟨f1, rfl, hfew, hb⟩
  have D1' := Lib.hid (D1.out.mv hb)
  clear hb D1
  cases f1
  case false =>
    have HQ := Lib.hid D1'.out.now.2.2.2.2
    clear D1' hfew
    go_wp2
    go_ret
    exact ⟨rfl, by rw [HBT.out]; exact HQ.out⟩
  have HUS := Lib.hid (show ∀ x ∈ u, x.2.size ≤ 1000000000000 from fun x hx => Nat.le_trans (hfew rfl x hx) (by omega))
  clear hfew
  obtain ⟨⟨t0, t1⟩, _⟩ := D1'.out.now
  go_wp2_with fail
  clear t0 t1
  refine (few_any t w1'.heap.size a c w1' (Nat.le_refl _) D1'.out.now.2.1).mono ?_
  rintro e w2 ⟨rfl, hb⟩
  have D2 := Lib.hid (D1'.out.mv hb)
  clear hb D1'
  have hfew : decide (t.size ≤ 500) = true → t.size ≤ 500 := by simp
  generalize decide (t.size ≤ 500) = f2 at hfew ⊢
  cases f2
  case false =>
    have HQ := Lib.hid D2.out.now.2.2.2.2
    clear D2 hfew
    go_wp2
    go_ret
    exact ⟨rfl, by rw [HBT.out]; exact HQ.out⟩
  have hts := hfew rfl
  clear hfew
  go_wp2_with fail
  refine (then_any HBA.out s u HSS.out HUS.out w2.heap.size as_ cs au cu w2 (Nat.le_refl _) D2.out.now.2.2.1 D2.out.now.2.2.2.1).mono ?_
  rintro e w3 h3
  obtain ⟨x, k, ax, cx, rfl, hxB, hb, hxs, hkey⟩ := then_key h3
  have D3 := Lib.hid ((D2.out.mv hb).and (later_bs hxB))
  have HXS := Lib.hid hxs
  have HKEY := Lib.hid hkey
  clear h3 hxB hb hxs hkey D2
  obtain ⟨_, ⟨t0, t1⟩, _⟩ := D3.out.now
  go_wp2_with fail
  clear t0 t1
  refine (apply_any s HSS.out t (by omega) w3.heap.size as_ cs a c w3 (Nat.le_refl _) D3.out.now.2.2.2.1 HTW.out D3.out.now.2.2.1).mono ?_
  have hys : (appT s t).size ≤ 1000000000000 := appT_small
  rintro e w4 ⟨a1, c1, rfl, hyw, hyA, hb⟩
  have D4 := Lib.hid (D3.out.pushT hb _ a1 c1 hyA)
  have HYW := Lib.hid hyw
  clear hb hyA hyw D3
  generalize hy : appT s t = y at D4 HYW hys ⊢
  generalize hf : appE s t = f at ⊢
  have HY := Lib.hid hy
  have HF := Lib.hid hf
  clear hy hf
  obtain ⟨⟨y0, y1⟩, _⟩ := D4.out.now
  go_wp2_with fail
  clear y0 y1
  generalize w4.alloc (tmCells y.head a1 y.args.length c1) = w5 at D4 ⊢
  generalize w4.heap.size = b1 at D4 ⊢
  refine (apply_any u HUS.out y hys w5.heap.size au cu a1 c1 w5 (Nat.le_refl _) D4.out.now.2.2.2.2.2.2.1 HYW.out D4.out.now.2.1).mono ?_
  have hps : (appT u y).size ≤ 1000000000000 := appT_small
  rintro e w6 ⟨a2, c2, rfl, _, hpA, hb⟩
  have D5 := Lib.hid (D4.out.pushT hb _ a2 c2 hpA)
  clear hb hpA D4
  generalize hp : appT u y = p at D5 hps ⊢
  generalize hg : appE u y = g at ⊢
  have HP := Lib.hid hp
  have HG := Lib.hid hg
  clear hp hg
  obtain ⟨_, _, _, _, _, ⟨t0, t1⟩, _⟩ := D5.out.now
  go_wp2_with fail
  clear t0 t1
  generalize w6.alloc (tmCells p.head a2 p.args.length c2) = w7 at D5 ⊢
  generalize w6.heap.size = b2 at D5 ⊢
  refine (apply_any x HXS.out t (by omega) w7.heap.size ax cx a c w7 (Nat.le_refl _) D5.out.now.2.2.2.2.1 HTW.out D5.out.now.2.2.2.2.2.2.1).mono ?_
  rintro e w8 ⟨a3, c3, rfl, _, hqA, hb⟩
  have D6 := Lib.hid (D5.out.pushT hb _ a3 c3 hqA)
  clear hb hqA D5
  generalize hq : appT x t = q at D6 ⊢
  generalize hh : appE x t = h at ⊢
  have HQT := Lib.hid hq
  have HH := Lib.hid hh
  clear hq hh
  have KEY := Lib.hid (show k = 0 → f = 0 → p = q ∧ g = h from fun hk hf => by
    obtain ⟨k1, k2, k3, k4⟩ := HKEY.out hk
    have := app_then k1 k2 k3 k4 (by rw [HF.out]; exact hf)
    rw [HY.out, HP.out, HQT.out, HG.out, HH.out] at this
    exact this)
  by_cases qk : k = 0
  case neg =>
    have hne : (k == 0) = false := by simpa using qk
    clear KEY HKEY HF HG HH HY HP HQT
    go_wp2_with fail
    generalize w8.alloc (tmCells q.head a3 q.args.length c3) = w9 at D6 ⊢
    refine (awake3_any w9).mono ?_
    rintro e w10 ⟨rfl, hb⟩
    have HQ := Lib.hid (D6.out w10 hb).2.2.2.2.2.2.2.2.2.2.2
    clear hb
    go_wp2
    go_ret
    exact ⟨by simp, by rw [HBT.out]; exact HQ.out⟩
  by_cases qf : f = 0
  case neg =>
    have hne : (f == 0) = false := by simpa using qf
    subst qk
    clear KEY HKEY HF HG HH HY HP HQT
    go_wp2_with fail
    generalize w8.alloc (tmCells q.head a3 q.args.length c3) = w9 at D6 ⊢
    refine (awake3_any w9).mono ?_
    rintro e w10 ⟨rfl, hb⟩
    have HQ := Lib.hid (D6.out w10 hb).2.2.2.2.2.2.2.2.2.2.2
    clear hb
    go_wp2
    go_ret
    exact ⟨by simp, by rw [HBT.out]; exact HQ.out⟩
  obtain ⟨hpq, hgh⟩ := KEY.out qk qf
  obtain ⟨k1, _⟩ := HKEY.out qk
  have HER := Lib.hid (show errS x = 0 from by unfold errS; rw [k1]; rfl)
  subst qk qf hpq hgh
  clear KEY HKEY HF HG HH HY HP HQT k1
  by_cases qg : g = 0
  case neg =>
    have hne : (g == 0) = false := by simpa using qg
    go_wp2_with fail
    generalize w8.alloc (tmCells p.head a3 p.args.length c3) = w9 at D6 ⊢
    refine (awake3_any w9).mono ?_
    rintro e w10 ⟨rfl, hb⟩
    have HQ := Lib.hid (D6.out w10 hb).2.2.2.2.2.2.2.2.2.2.2
    clear hb
    go_wp2
    go_ret
    exact ⟨by simp, by rw [HBT.out]; exact HQ.out⟩
  subst qg
  go_wp2_with fail
  generalize w8.alloc (tmCells p.head a3 p.args.length c3) = w9 at D6 ⊢
  generalize w8.heap.size = b3 at D6 ⊢
  refine (awake3_any w9).mono ?_
  rintro e w10 ⟨rfl, hb⟩
  have D7 := Lib.hid (D6.out.mv hb)
  clear hb D6
  obtain ⟨⟨q0, q1⟩, _, ⟨p0, p1⟩, _⟩ := D7.out.now
  go_wp2_with fail
  clear q0 q1 p0 p1
  refine (sameAt_any p p rfl hps w10.heap.size a2 c2 a3 c3 w10 (Nat.le_refl _) D7.out.now.2.2.2.1 D7.out.now.2.1).mono ?_
  rintro e w11 ⟨rfl, hb⟩
  have D8 := Lib.hid (D7.out.mv hb)
  clear hb D7
  go_wp2_with fail
  refine (sCheck_any x HXS.out w11.heap.size ax cx w11 (Nat.le_refl _) D8.out.now.2.2.2.2.2.2.1).mono ?_
  rw [HER.out]
  rintro e w12 ⟨rfl, hb⟩
  have HQ := Lib.hid (D8.out w12 hb).2.2.2.2.2.2.2.2.2.2.2
  clear hb
  go_wp2
  go_ret
  exact ⟨by simp, by rw [HBT.out]; exact HQ.out⟩

end Go.Proofs.Ytgjamdbiamleoaa
