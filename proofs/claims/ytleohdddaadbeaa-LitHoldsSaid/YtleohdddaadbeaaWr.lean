/- Contracts of the document's power and WorldRight. -/
import Derived.Test.YtleohdddaadbeaaWn
import Derived.Test.YtleohdddaadbeaaWp
import Derived.Test.YtleohdddaadbeaaQBn
import Derived.BigQuiet
import Derived.Deep.QuietTactic
import Derived.Lib.QuietBelow
import Derived.Test.YtleohdddaadbeaaQDe
namespace Go.Proofs.Ytleohdddaadbeaa
set_option linter.unusedVariables false
set_option linter.unusedSimpArgs false
open Go.RowKit

def PwI (z : Int) (n : Int) (w : World) (p i : Value) (wr : World) : Prop := ∃ k : Nat, (k : Int) ≤ n ∧ i = .int .i64 k ∧ p = .int .i64 (powI z k) ∧ w = wr

set_option maxRecDepth 100000 in
set_option maxHeartbeats 1000000 in
theorem power_any (z n : Int) (h1 : 1 ≤ z) (h2 : z ≤ 4) (h0 : 0 ≤ n) (hn : n ≤ 4) (w : World) :
    Calls Try.prog 52 #[.int .i64 z, .int .i64 n] w fun e w' => e = .returned (.int .i64 (powI z n.toNat)) ∧ Below w.heap.size w w' := by
  go_enter Try.func52, Try.ntmps52
  go_wp2
  go_loopw [5, 6] (fun p i wr => PwI z n w p i wr) (fun _ i _ => n.toNat - (intOf i).toNat)
  case atStart => exact ⟨0, by omega, rfl, rfl, rfl⟩
  case round =>
    obtain ⟨k, hk, rfl, rfl, rfl⟩ := hrel
    by_cases hlt : (k : Int) < n
    · have hw : IntKind.i64.wrap (powI z k * z) = powI z (k + 1) := by
        have := pow_small (n := k + 1) h1 h2 (by omega)
        exact IntWalk.i64_in _ (by rw [show powI z k * z = powI z (k + 1) from rfl]; omega)
      go_wp2
      go_roundw
      case rel => exact ⟨k + 1, by omega, by go_num, rfl, rfl⟩
      case measure => simp [intOf]; omega
    · obtain rfl : (k : Int) = n := by omega
      go_wp2
      go_ret
      exact ⟨by simp, Below.refl _ _⟩

theorem right_ar {g : Sg} {k : Nat} {x : Sy} (hr : rightG g = true) (hx : g[k]? = some x) : 0 ≤ x.ar := by
  have hb : badSy x = false := by
    cases h : badSy x with
    | false => rfl
    | true => rw [rightG_bad hx h] at hr; cases hr
  simp only [badSy, Bool.or_eq_false_iff, decide_eq_false_iff_not] at hb
  omega
theorem right_zero {g : Sg} (hr : rightG g = true) : g[0]? = some sy0 := by
  unfold rightG at hr
  simp only [Bool.and_eq_true, decide_eq_true_eq] at hr
  exact hr.1.1.2
theorem mostI_or (z : Int) (x : Sy) : (x.tr = true ∧ mostI z x = 2) ∨ (x.tr = false ∧ mostI z x = z) := by
  unfold mostI
  cases x.tr <;> simp
theorem wRight_iff {g : Sg} {m : Ip} : wRight g m = true ↔ rightG g = true ∧ 1 ≤ m.size ∧ m.size ≤ 4 ∧ m.rows.length = g.length ∧ (∀ i, i < g.length → rowAt g m i = true) ∧ firstI m.rows = 1 := by
  unfold wRight
  simp only [Bool.and_eq_true, decide_eq_true_eq, List.all_eq_true, List.mem_range]
  constructor
  · rintro ⟨⟨⟨⟨⟨h1, h2⟩, h3⟩, h4⟩, h5⟩, h6⟩; exact ⟨h1, h2, h3, h4, h5, h6⟩
  · rintro ⟨h1, h2, h3, h4, h5, h6⟩; exact ⟨⟨⟨⟨⟨h1, h2⟩, h3⟩, h4⟩, h5⟩, h6⟩
theorem wRight_no {g : Sg} {m : Ip} (h : ¬ (rightG g = true ∧ 1 ≤ m.size ∧ m.size ≤ 4 ∧ m.rows.length = g.length ∧ (∀ i, i < g.length → rowAt g m i = true) ∧ firstI m.rows = 1)) : wRight g m = false := by
  rw [← wRight_iff] at h
  simpa using h
theorem rowAt_iff {g : Sg} {m : Ip} {i : Nat} {x : Sy} {r : List Int} (hx : g[i]? = some x) (hr : m.rows[i]? = some r) : rowAt g m i = true ↔ x.ar ≤ 4 ∧ (r.length : Int) = powI m.size x.ar.toNat ∧ ∀ k ∈ r, 0 ≤ k ∧ k < mostI m.size x := by
  unfold rowAt
  rw [hx, hr]
  simp only [rowOk, Bool.and_eq_true, decide_eq_true_eq, List.all_eq_true]
  constructor
  · rintro ⟨⟨h1, h2⟩, h3⟩; exact ⟨h1, h2, h3⟩
  · rintro ⟨h1, h2, h3⟩; exact ⟨⟨h1, h2⟩, h3⟩

def WrI (g : Sg) (m : Ip) (w : World) (i : Value) (wr : World) : Prop := ∃ k : Nat, k ≤ g.length ∧ i = .int .i64 k ∧ (∀ j, j < k → rowAt g m j = true) ∧ Below w.heap.size w wr
def WrJ (mst : Int) (r : List Int) (w : World) (i : Value) (wr : World) : Prop := ∃ k : Nat, k ≤ r.length ∧ i = .int .i64 k ∧ (∀ (j : Nat) (z : Int), j < k → r[j]? = some z → 0 ≤ z ∧ z < mst) ∧ Below w.heap.size w wr

set_option maxRecDepth 100000 in
set_option maxHeartbeats 8000000 in
theorem worldRight_any (g : Sg) (m : Ip) (n₀ : Nat) (ga : Option Addr) (gc : Nat) (ma : Option Addr) (mc : Nat) (w : World) (hn : n₀ ≤ w.heap.size) (hG : IsSg n₀ w g ga gc) (hM : IsRs n₀ w m.rows ma mc) :
    Calls Try.prog 26 #[.slice ga g.length gc, ipV m ma mc] w fun e w' => e = .returned (.bool (wRight g m)) ∧ Below w.heap.size w w' := by
  have hlg : g.length ≤ gc ∧ gc ≤ maxLen := ⟨hG.1, hG.2.1⟩
  unfold maxLen at hlg
  obtain ⟨hg1, hg2⟩ := hlg
  have d0 := (((Later.below (Below.refl _ w)).and (later_rs (hM.mono hn))).and (later_sg (hG.mono hn))).pushI (Below.refl _ _) m ma mc
  have D := Lib.hid d0
  clear d0 hM hG
  go_enter Try.func26, Try.ntmps26
  go_wp2_with fail
  generalize w.alloc (ipO m ma mc) = w1 at D ⊢
  generalize hb0 : w.heap.size = b0 at D ⊢
  have HB0 := Lib.hid hb0
  clear hb0
  refine (r7Right_any g w1.heap.size ga gc w1 (Nat.le_refl _) D.out.now.2.1).mono ?_
  rintro e w2 ⟨rfl, hb⟩
  have D2 := Lib.hid (D.out.mv hb)
  clear hb D
  have HQ := Lib.hid D2.out.now.2.2.2
  by_cases q0 : rightG g = true
  case neg =>
    have HE := Lib.hid (wRight_no (g := g) (m := m) fun h => q0 h.1)
    rw [show rightG g = false from by simpa using q0]
    go_wp2
    go_ret
    exact ⟨by rw [HE.out]; rfl, by rw [HB0.out]; exact HQ.out⟩
  have HR := Lib.hid q0
  rw [q0]
  clear q0
  obtain ⟨⟨i0, i1⟩, _⟩ := D2.out.now
  by_cases q1 : 1 ≤ m.size
  case neg =>
    have HE := Lib.hid (wRight_no (g := g) (m := m) fun h => q1 h.2.1)
    go_wp2
    go_ret
    exact ⟨by rw [HE.out]; rfl, by rw [HB0.out]; exact HQ.out⟩
  by_cases q2 : m.size ≤ 4
  case neg =>
    have HE := Lib.hid (wRight_no (g := g) (m := m) fun h => q2 h.2.2.1)
    go_wp2
    go_ret
    exact ⟨by rw [HE.out]; rfl, by rw [HB0.out]; exact HQ.out⟩
  by_cases q3 : m.rows.length = g.length
  case neg =>
    have HE := Lib.hid (wRight_no (g := g) (m := m) fun h => q3 h.2.2.2.1)
    have q3' : ((m.rows.length : Int) != (g.length : Int)) = true := by simp; omega
    go_wp2
    go_ret
    exact ⟨by rw [HE.out]; rfl, by rw [HB0.out]; exact HQ.out⟩
  have q3' : ((m.rows.length : Int) != (g.length : Int)) = false := by simp [q3]
  have H3 := Lib.hid q3
  clear q3
  go_wp2
  clear i0 i1 q3'
  go_loopw [5, 6, 7] (fun i _ _ wr => WrI g m w2 i wr) (fun i _ _ _ => g.length - (intOf i).toNat)
  case atStart => exact ⟨0, Nat.zero_le _, rfl, fun j hj => by omega, Below.refl _ _⟩
  case round =>
    obtain ⟨k, hk, rfl, hall, hB⟩ := hrel
    have HA := Lib.hid hall
    have HB := Lib.hid hB
    have hbz := hB.size
    have D3 := Lib.hid (D2.out.mv hB)
    have HQ3 := Lib.hid D3.out.now.2.2.2
    obtain ⟨⟨i0, i1⟩, hsg, hrs, _⟩ := D3.out.now
    clear hall hB
    by_cases hlt : k < g.length
    · obtain ⟨b, o, x, rfl, hbn, hs, hxw, hc0, hc1, hc2, hc3⟩ := hsg.elem hlt
      obtain ⟨rb, ro, r, ra, rc, rfl, hrb, hrr, hrc, hri⟩ := hrs.elem (i := k) (by rw [H3.out]; exact hlt)
      have hk0 : (0 : Int) ≤ (k : Int) := Int.natCast_nonneg _
      have hk1 : (k : Int) < (g.length : Int) := by omega
      have hk2 : (k : Int) < (m.rows.length : Int) := by have := H3.out; omega
      have HX := Lib.hid (rowAt_iff hs hrr)
      have har := right_ar HR.out hs
      have HRI := Lib.hid hri
      obtain ⟨wo, hwo⟩ : ∃ wo, wr = wo := ⟨_, rfl⟩
      subst hwo
      have hbw : b < wr.heap.size := by omega
      clear hs hrr hri hxw hc0 hc2 hsg hrs
      rcases mostI_or m.size x with ⟨htr, hm⟩ | ⟨htr, hm⟩
      all_goals
        rw [htr] at hc3
        have HM := Lib.hid hm
        clear hm htr
        by_cases q4 : 4 < x.ar
        · have HE := Lib.hid (wRight_no (g := g) (m := m) fun h => by have := (HX.out.1 (h.2.2.2.2.1 k hlt)).1; omega)
          have f1 := fun d os => cell_regrown hc1 d os
          go_wp2
          refine wp_region_wq (by kernel_rfl) (by kernel_rfl) ?_
          repeat (first
            | (refine WQ.skip (by rfl) ?_; simp only [Act.put, List.setIfInBounds_toArray, List.set_cons_succ, List.set_cons_zero])
            | (apply WQ.two (by rfl); (intro w' hw'; obtain ⟨pq, rfl⟩ := hw'; go_simp; first | exact rfl); simp only [Act.put, List.setIfInBounds_toArray, List.set_cons_succ, List.set_cons_zero]))
          refine WQ.nil ?_
          intro _ hw'
          obtain ⟨⟨dq, osq⟩, hw''⟩ := hw'
          subst hw''
          go_wp2
          go_ret
          exact ⟨by rw [HE.out]; rfl, by rw [HB0.out]; exact HQ3.out.trans ((below_regrown wr dq osq).mono (by have := HQ3.out.size; have := HB0.out; omega))⟩
        · have f1 := fun d os => cell_regrown hc1 d os
          have f2 := fun d os => cell_regrown i0 d os
          have f3 := fun d os => cell_regrown i1 d os
          have f4 := fun d os => cell_regrown hrc d os
          have q4' : decide (4 < x.ar) = false := decide_eq_false q4
          have PW := Lib.hid (fun (W : World) => power_any m.size x.ar q1 q2 har (by omega) W)
          by_cases q5 : (r.length : Int) = powI m.size x.ar.toNat
          case neg =>
            have HE := Lib.hid (wRight_no (g := g) (m := m) fun h => by have := (HX.out.1 (h.2.2.2.2.1 k hlt)).2.1; omega)
            have q5' : ((r.length : Int) != powI m.size x.ar.toNat) = true := by simpa using q5
            clear q5
            go_wp2
            refine wp_region_wq (by kernel_rfl) (by kernel_rfl) ?_
            repeat (first
              | (refine WQ.skip (by rfl) ?_; simp only [Act.put, List.setIfInBounds_toArray, List.set_cons_succ, List.set_cons_zero])
              | (apply WQ.two (by rfl); (intro w' hw'; obtain ⟨pq, rfl⟩ := hw'; go_simp; first | (with_reducible exact Calls.regrown_of (PW.out _)) | exact rfl); simp only [Act.put, List.setIfInBounds_toArray, List.set_cons_succ, List.set_cons_zero]))
            refine WQ.nil ?_
            intro _ hw'
            obtain ⟨⟨dq, osq⟩, hw''⟩ := hw'
            subst hw''
            go_wp2
            go_ret
            exact ⟨by rw [HE.out]; rfl, by rw [HB0.out]; exact HQ3.out.trans ((below_regrown wr dq osq).mono (by have := HQ3.out.size; have := HB0.out; omega))⟩
          have H5 := Lib.hid q5
          have q5' : ((r.length : Int) != powI m.size x.ar.toNat) = false := by simpa using q5
          clear q5
          go_wp2
          refine wp_region_wq (by kernel_rfl) (by kernel_rfl) ?_
          repeat (first
            | (refine WQ.skip (by rfl) ?_; simp only [Act.put, List.setIfInBounds_toArray, List.set_cons_succ, List.set_cons_zero])
            | (apply WQ.two (by rfl); (intro w' hw'; obtain ⟨pq, rfl⟩ := hw'; go_simp; first | (with_reducible exact Calls.regrown_of (PW.out _)) | exact rfl); simp only [Act.put, List.setIfInBounds_toArray, List.set_cons_succ, List.set_cons_zero]))
          refine WQ.nil ?_
          intro _ hw'
          obtain ⟨⟨dq, osq⟩, hw''⟩ := hw'
          subst hw''
          have hb5 := below_regrown wr dq osq
          clear f1 f2 f3 f4 q5' PW
          dsimp only
          generalize Go.Sort.grow (redrawn wr dq) osq = W5 at hb5 ⊢
          have D5 := Lib.hid (D3.out.mv hb5)
          have hrl : (r.length : Int) ≤ 256 := by have := pow_small (n := x.ar.toNat) q1 q2 (by omega); have := H5.out; omega
          have hz5 := hb5.size
          have HB5 := Lib.hid hb5
          have HRC := Lib.hid hrc
          clear hb5 i0 i1 hc1 hc3 hrc
          go_wp2
          go_loopw [7] (fun i wq => WrJ (mostI m.size x) r W5 i wq) (fun i _ => r.length - (intOf i).toNat)
          case atStart => exact ⟨0, Nat.zero_le _, rfl, fun j z hj => by omega, Below.refl _ _⟩
          case round =>
            obtain ⟨k2, hk3, rfl, hall2, hB6⟩ := hrel
            have HA2 := Lib.hid hall2
            have hz6 := hB6.size
            have hB6' := HB5.out.trans (hB6.mono hz5)
            have hrc := (hB6'.cell (p := ⟨rb, ro + k, none⟩) (by omega)).trans HRC.out
            have HB6 := Lib.hid (HB.out.trans (hB6'.mono hbz))
            have HBJ := Lib.hid hB6
            have D6 := Lib.hid (D5.out.mv hB6)
            have HQ6 := Lib.hid D6.out.now.2.2.2
            obtain ⟨⟨i0, i1⟩, _⟩ := D6.out.now
            have hri := HRI.out.below hB6'
            clear hall2 hB6 hB6'
            by_cases hlt2 : k2 < r.length
            · obtain ⟨vb, vo, z, rfl, hvb, hzz, hcz⟩ := hri.elem hlt2
              have HZ := Lib.hid hzz
              have hk4 : (0 : Int) ≤ (k2 : Int) := Int.natCast_nonneg _
              have hk5 : (k2 : Int) < (r.length : Int) := by omega
              clear hzz hri
              by_cases q6 : 0 ≤ z
              case neg =>
                have HE := Lib.hid (wRight_no (g := g) (m := m) fun h => by have := ((HX.out.1 (h.2.2.2.2.1 k hlt)).2.2 z (List.mem_of_getElem? HZ.out)).1; omega)
                go_wp2
                go_ret
                exact ⟨by rw [HE.out]; rfl, by rw [HB0.out]; exact HQ6.out⟩
              by_cases q7 : z < mostI m.size x
              · have HL := Lib.hid q7
                rw [HM.out] at q7
                go_wp2
                go_roundw
                case rel => exact ⟨k2 + 1, by omega, by go_num, fun j y hj hy => by
                  by_cases e : j < k2
                  · exact HA2.out j y e hy
                  · obtain rfl : j = k2 := by omega
                    rw [HZ.out] at hy
                    injection hy with hy
                    subst hy
                    exact ⟨q6, HL.out⟩, HBJ.out⟩
                case measure => simp [intOf]; omega
              · have HE := Lib.hid (wRight_no (g := g) (m := m) fun h => by have := ((HX.out.1 (h.2.2.2.2.1 k hlt)).2.2 z (List.mem_of_getElem? HZ.out)).2; omega)
                rw [HM.out] at q7
                go_wp2
                go_ret
                exact ⟨by rw [HE.out]; rfl, by rw [HB0.out]; exact HQ6.out⟩
            · obtain rfl : k2 = r.length := by omega
              have HK := Lib.hid (show rowAt g m k = true from HX.out.2 ⟨by omega, H5.out, fun y hy => by
                obtain ⟨j, hj⟩ := List.getElem?_of_mem hy
                exact HA2.out j y (List.getElem?_eq_some_iff.1 hj).1 hj⟩)
              clear hri
              go_wp2
              go_roundw
              case rel => exact ⟨k + 1, by omega, by go_num, fun j hj => by
                by_cases e : j < k
                · exact HA.out j e
                · obtain rfl : j = k := by omega
                  exact HK.out, HB6.out⟩
              case measure => simp [intOf]; omega
    · obtain rfl : k = g.length := by omega
      have h0 := right_zero HR.out
      have hg0 : 0 < g.length := (List.getElem?_eq_some_iff.1 h0).1
      obtain ⟨rb, ro, r, ra, rc, rfl, hrb, hrr, hrc, hri⟩ := hrs.elem (i := 0) (by rw [H3.out]; exact hg0)
      have hr1 := ((rowAt_iff h0 hrr).1 (HA.out 0 hg0)).2.1
      have hr2 : r.length = 1 := by
        have : powI m.size sy0.ar.toNat = 1 := rfl
        omega
      obtain ⟨vb, vo, z, rfl, hvb, hzz, hcz⟩ := hri.elem (k := 0) (by omega)
      have HF := Lib.hid (show wRight g m = (z == 1) from by
        have hf : firstI m.rows = z := by
          cases hm : m.rows with
          | nil => rw [hm] at hrr; simp at hrr
          | cons u us =>
            rw [hm] at hrr
            simp at hrr
            subst hrr
            cases u with
            | nil => simp at hr2
            | cons y ys => simp at hzz; subst hzz; rfl
        by_cases e : z = 1
        · rw [show (z == 1) = true from by simpa using e]
          exact wRight_iff.2 ⟨HR.out, q1, q2, H3.out, HA.out, by rw [hf]; exact e⟩
        · rw [show (z == 1) = false from by simpa using e]
          exact wRight_no fun h => e (by rw [← hf]; exact h.2.2.2.2.2))
      have hl0 : (0 : Int) < (m.rows.length : Int) := by have := H3.out; omega
      have hr3 : (r.length : Int) = 1 := by omega
      rw [show ro + 0 = ro from rfl] at hrc
      rw [show vo + 0 = vo from rfl] at hcz
      rw [hr2] at hrc
      clear h0 hrr hzz hri hr1 hsg hrs
      go_wp2
      go_ret
      exact ⟨by rw [HF.out]; rfl, by rw [HB0.out]; exact HQ3.out⟩

end Go.Proofs.Ytleohdddaadbeaa
