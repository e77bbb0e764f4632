/- The walk of SubstTogether, given the contract of boundVars. -/
import Derived.Test.YtgjamdbiamleoaaWSTh
import Derived.Test.YtgjamdbiamleoaaThen
import Derived.Test.YtgjamdbiamleoaaRSm
namespace Go.Proofs.Ytgjamdbiamleoaa
set_option linter.unusedVariables false
set_option linter.unusedSimpArgs false
open Go.RowKit

theorem then_key2 {s u : Sb} {w w' : World} {e : Ending} (hr : rightS 0 s = true) (hu : rightS 0 u = true) (h : ThenPost s u w e w') : ∃ (a : Option Addr) (c : Nat), e = .returned (.tuple #[.slice a (if thenE s u allV = 0 then thenL s u allV else []).length c, .int .i64 (thenE s u allV)]) ∧ IsBs w'.heap.size w' (if thenE s u allV = 0 then thenL s u allV else []) a c ∧ Below w.heap.size w w' ∧ (∀ p ∈ (if thenE s u allV = 0 then thenL s u allV else []), p.2.size ≤ 1000000000000) := by
  rcases h with ⟨hn, _⟩ | ⟨_, vs, hvs, ⟨he, a, c, h1, h2, h3⟩ | ⟨he, a, c, h1, h2, h3⟩⟩
  · rw [hr, hu] at hn; cases hn
  · obtain ⟨e1, e2⟩ := then_allV hr hu hvs
    rw [← e1, ← e2, if_pos he, he]
    refine ⟨a, c, h1, h2, h3, fun p hp => ?_⟩
    obtain ⟨hm, e3⟩ := mem_thenL hp
    rw [e3]
    exact Nat.le_trans (check_ok (thenE_zero he _ hm)).1 (by omega)
  · obtain ⟨e1, e2⟩ := then_allV hr hu hvs
    rw [← e2, if_neg he]
    exact ⟨a, c, h1, h2, h3, by simp⟩

set_option maxRecDepth 100000 in
set_option maxHeartbeats 8000000 in
theorem substTogether_walk0 (BA : BoundAny) (s u v : Sb) (as_ : Option Addr) (cs : Nat) (au : Option Addr) (cu : Nat) (av : Option Addr) (cv : Nat) (w : World) (hS : IsBs w.heap.size w s as_ cs) (hU : IsBs w.heap.size w u au cu) (hV : IsBs w.heap.size w v av cv) :
    Calls Try.prog 4 #[.slice as_ s.length cs, .slice au u.length cu, .slice av v.length cv] w fun e w' => e = .returned (.bool true) ∧ Below w.heap.size w w' := by
  have HBA := Lib.hid BA
  have D := Lib.hid ((((Later.below (Below.refl _ w)).and (later_bs hV)).and (later_bs hU)).and (later_bs hS))
  clear hS hU hV BA
  go_enter Try.func4, Try.ntmps4
  go_wp2_with fail
  refine (fewS_any s w.heap.size as_ cs w (Nat.le_refl _) D.out.now.1).mono ?_
  rintro e w1 ⟨f1, rfl, hfew, hb⟩
  have D1 := Lib.hid (D.out.mv hb)
  clear hb D
  cases f1
  case false =>
    have HQ := Lib.hid D1.out.now.2.2.2
    clear D1 hfew
    go_wp2
    go_ret
    exact ⟨rfl, HQ.out⟩
  have HSS := Lib.hid (show ∀ x ∈ s, x.2.size ≤ 1000000000000 from fun x hx => Nat.le_trans (hfew rfl x hx) (by omega))
  clear hfew
  go_wp2_with fail
  refine (fewS_any u w1.heap.size au cu w1 (Nat.le_refl _) D1.out.now.2.1).mono ?_
  rintro e w2 ⟨f1, rfl, hfew, hb⟩
  have D2 := Lib.hid (D1.out.mv hb)
  clear hb D1
  cases f1
  case false =>
    have HQ := Lib.hid D2.out.now.2.2.2
    clear D2 hfew
    go_wp2
    go_ret
    exact ⟨rfl, HQ.out⟩
  have HUS := Lib.hid (show ∀ x ∈ u, x.2.size ≤ 1000000000000 from fun x hx => Nat.le_trans (hfew rfl x hx) (by omega))
  clear hfew
  go_wp2_with fail
  refine (fewS_any v w2.heap.size av cv w2 (Nat.le_refl _) D2.out.now.2.2.1).mono ?_
  rintro e w3 ⟨f1, rfl, hfew, hb⟩
  have D3 := Lib.hid (D2.out.mv hb)
  clear hb D2
  cases f1
  case false =>
    have HQ := Lib.hid D3.out.now.2.2.2
    clear D3 hfew
    go_wp2
    go_ret
    exact ⟨rfl, HQ.out⟩
  have HVS := Lib.hid (show ∀ x ∈ v, x.2.size ≤ 1000000000000 from fun x hx => Nat.le_trans (hfew rfl x hx) (by omega))
  clear hfew
  go_wp2_with fail
  refine (then_any HBA.out s u HSS.out HUS.out w3.heap.size as_ cs au cu w3 (Nat.le_refl _) D3.out.now.1 D3.out.now.2.1).mono ?_
  rintro e w4 h4
  obtain ⟨x, k, ax, cx, rfl, hxB, hb, hxs, hkey⟩ := then_key h4
  have D4 := Lib.hid ((D3.out.mv hb).and (later_bs hxB))
  have HXS := Lib.hid hxs
  have HKX := Lib.hid hkey
  clear h4 hxB hb hxs hkey D3
  go_wp2_with fail
  refine (then_any HBA.out u v HUS.out HVS.out w4.heap.size au cu av cv w4 (Nat.le_refl _) D4.out.now.2.2.1 D4.out.now.2.2.2.1).mono ?_
  rintro e w5 h5
  obtain ⟨y, l, ay, cy, rfl, hyB, hb, hys, hkey⟩ := then_key h5
  have D5 := Lib.hid ((D4.out.mv hb).and (later_bs hyB))
  have HYS := Lib.hid hys
  have HKY := Lib.hid hkey
  clear h5 hyB hb hys hkey D4
  by_cases qk : k = 0
  case neg =>
    have hne : (k == 0) = false := by simpa using qk
    go_wp2_with fail
    refine (awake3_any w5).mono ?_
    rintro e w6 ⟨rfl, hb⟩
    have HQ := Lib.hid (D5.out w6 hb).2.2.2.2.2
    clear hb
    go_wp2
    go_ret
    exact ⟨rfl, HQ.out⟩
  by_cases ql : l = 0
  case neg =>
    have hne : (l == 0) = false := by simpa using ql
    subst qk
    go_wp2_with fail
    refine (awake3_any w5).mono ?_
    rintro e w6 ⟨rfl, hb⟩
    have HQ := Lib.hid (D5.out w6 hb).2.2.2.2.2
    clear hb
    go_wp2
    go_ret
    exact ⟨rfl, HQ.out⟩
  obtain ⟨rx, rs, _, ofx⟩ := HKX.out qk
  obtain ⟨ry, _, rv, ofy⟩ := HKY.out ql
  obtain ⟨eL, eE⟩ := then_congr (s := x) (u := v) (s' := s) (u' := y) allV (fun z hz => then_assoc rs ofx ofy (mem_allV.1 hz).1 (mem_allV.1 hz).2)
  have RX := Lib.hid rx
  have RS := Lib.hid rs
  have RY := Lib.hid ry
  have RV := Lib.hid rv
  have EL := Lib.hid eL
  have EE := Lib.hid eE
  subst qk ql
  clear HKX HKY rx rs ry rv ofx ofy eL eE
  go_wp2_with fail
  refine (then_any HBA.out x v HXS.out HVS.out w5.heap.size ax cx av cv w5 (Nat.le_refl _) D5.out.now.2.1 D5.out.now.2.2.2.2.1).mono ?_
  rintro e w6 h6
  obtain ⟨ac, cc, rfl, hcB, hb, hcs⟩ := then_key2 RX.out RV.out h6
  rw [EL.out, EE.out] at hcB hcs ⊢
  obtain ⟨p, hp⟩ : ∃ p, (if thenE s y allV = 0 then thenL s y allV else []) = p := ⟨_, rfl⟩
  obtain ⟨g, hg⟩ : ∃ g, thenE s y allV = g := ⟨_, rfl⟩
  have HP := Lib.hid hp
  have HG := Lib.hid hg
  rw [hp] at hcB hcs ⊢
  rw [hg]
  have D6 := Lib.hid ((D5.out.mv hb).and (later_bs hcB))
  have HCS := Lib.hid hcs
  clear h6 hb hcB hcs D5 hp hg
  go_wp2_with fail
  refine (then_any HBA.out s y HSS.out HYS.out w6.heap.size as_ cs ay cy w6 (Nat.le_refl _) D6.out.now.2.2.2.1 D6.out.now.2.1).mono ?_
  rintro e w7 h7
  obtain ⟨ad, cd, rfl, hdB, hb, hds⟩ := then_key2 RS.out RY.out h7
  rw [HP.out] at hdB ⊢
  rw [HG.out]
  have D7 := Lib.hid ((D6.out.mv hb).and (later_bs hdB))
  clear h7 hb hdB hds D6
  go_wp2_with fail
  refine (awake3_any w7).mono ?_
  rintro e w8 ⟨rfl, hb⟩
  have D8 := Lib.hid (D7.out.mv hb)
  clear hb D7
  go_wp2_with fail
  refine (sameS_any p HCS.out w8.heap.size ac cc ad cd w8 (Nat.le_refl _) D8.out.now.2.1 D8.out.now.1).mono ?_
  rintro e w9 ⟨rfl, hb⟩
  have HQ := Lib.hid (D8.out w9 hb).2.2.2.2.2.2.2
  clear hb
  go_wp2
  go_ret
  exact ⟨by simp, HQ.out⟩

end Go.Proofs.Ytgjamdbiamleoaa
