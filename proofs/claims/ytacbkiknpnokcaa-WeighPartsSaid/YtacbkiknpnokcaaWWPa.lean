/- The walk of WeighParts. -/
import Derived.Test.YtacbkiknpnokcaaAw7
import Derived.Test.YtacbkiknpnokcaaFw7
import Derived.Test.YtacbkiknpnokcaaWpl
import Derived.Test.YtacbkiknpnokcaaAt
import Derived.Test.YtacbkiknpnokcaaCount
namespace Go.Proofs.Ytacbkiknpnokcaa
set_option linter.unusedVariables false
set_option linter.unusedSimpArgs false
open Go.RowKit

theorem at_nil {t : T} {p : List Int} (h : t.at p = none) : 0 < p.length := by
  cases p with
  | nil => simp [T.at] at h
  | cons i p => simp

set_option maxRecDepth 100000 in
set_option maxHeartbeats 4000000 in
theorem weighParts_walk (g : Sg) (t : T) (p : List Int) (ga : Option Addr) (gc : Nat) (a : Option Addr) (c : Nat) (ap : Option Addr) (cp : Nat) (w : World) (htw : (Lit.int .i64 t.head).wf = true) (hG : IsSg w.heap.size w g ga gc) (hA : IsArgs w.heap.size w t.args a c) (hP : IsIs w.heap.size w p ap cp) :
    Calls Try.prog 3 #[.slice ga g.length gc, tm t.head a t.args.length c, .slice ap p.length cp] w fun e w' => e = .returned (.bool true) ∧ Below w.heap.size w w' := by
  have hp1 : p.length ≤ cp ∧ cp ≤ maxLen := ⟨hP.1, hP.2.1⟩
  unfold maxLen at hp1
  obtain ⟨hp2, hp3⟩ := hp1
  have HTW := Lib.hid htw
  have CA := Lib.hid awake7_any
  have D := Lib.hid ((((Later.below (Below.refl w.heap.size w)).and (later_sg hG)).and (later_is hP)).pushT (Below.refl _ _) t a c hA)
  clear hG hA hP htw
  go_enter Try.func3, Try.ntmps3
  go_wp2_with fail
  generalize w.alloc (tmCells t.head a t.args.length c) = wB at D ⊢
  obtain ⟨_, _, _, hG0, _⟩ := D.out wB (Below.refl _ _)
  refine (fewG_any g wB.heap.size ga gc wB (Nat.le_refl _) hG0).mono ?_
  rintro e w1 ⟨b, rfl, hb1⟩
  have B1 := Lib.hid hb1
  clear hb1 hG0
  cases b with
  | false =>
    go_wp2
    go_ret
    exact ⟨rfl, (D.out _ B1.out).2.2.2.2⟩
  | true =>
  obtain ⟨⟨v0, v1⟩, hA0, _⟩ := D.out w1 B1.out
  go_wp2_with fail
  refine (few_any t w1.heap.size a c w1 (Nat.le_refl _) hA0).mono ?_
  rintro e w2 ⟨rfl, hb2⟩
  have B2 := Lib.hid (B1.out.trans (hb2.mono B1.out.size))
  clear hb2 hA0 v0 v1 B1
  by_cases qs : t.size ≤ 500
  case neg =>
    rw [decide_eq_false qs]
    go_wp2
    go_ret
    exact ⟨rfl, (D.out _ B2.out).2.2.2.2⟩
  rw [decide_eq_true qs]
  have hsz : t.size ≤ 1000000000000 := by omega
  by_cases qp : 60 < p.length
  · go_wp2
    go_ret
    exact ⟨rfl, (D.out _ B2.out).2.2.2.2⟩
  obtain ⟨⟨v0, v1⟩, hA0, _, hG0, _⟩ := D.out w2 B2.out
  have CW := Lib.hid (weight_any g t hsz w2.heap.size ga gc a c w2 (Nat.le_refl _) hG0 HTW.out hA0)
  clear hA0 hG0
  go_wp2_with fail
  refine CW.out.mono ?_
  rintro e w3 ⟨rfl, hb3⟩
  have B3 := Lib.hid (B2.out.trans (hb3.mono B2.out.size))
  clear hb3 v0 v1 B2 CW
  by_cases qe : errT g t = 0
  · have hwv : weightV g t = .tuple #[.int .i64 (wtT g t), .int .i64 0] := by unfold weightV; rw [if_pos qe]
    rw [hwv]
    clear hwv
    obtain ⟨⟨v0, v1⟩, hA0, hI0, _⟩ := D.out w3 B3.out
    go_wp2_with fail
    refine (at_any t p w3.heap.size a c ap cp w3 (Nat.le_refl _) HTW.out hA0 hI0).mono ?_
    rintro e w4 (⟨s, a4, c4, hq, rfl, hsw, hA4, hb4⟩ | ⟨hq, rfl, hb4⟩)
    · clear v0 v1
      have B4 := Lib.hid (B3.out.trans (hb4.mono B3.out.size))
      obtain ⟨hr, _⟩ := errT_ok qe
      obtain ⟨hok, hle, hlt⟩ := part_ok hr ((okT_iff hr).1 qe) hq
      have hes := (okT_iff hr).2 hok
      have h1s := wt_pos hr hok
      have hss : s.size ≤ 500 := Nat.le_trans (T.at_size hq) qs
      have HSW := Lib.hid hsw
      have hpz : p.length = 0 → wtT g s = wtT g t := fun h => by
        have : p = [] := List.eq_nil_of_length_eq_zero h
        subst this
        simp [T.at] at hq; rw [hq]
      have hpz2 : 0 < p.length → wtT g s < wtT g t := fun h => hlt (fun e => by subst e; simp at h)
      have LA := Lib.hid (Later.pushT (Later.below (Below.refl w4.heap.size w4)) (Below.refl _ _) s a4 c4 (hA4.mono hb4.size))
      clear hb4 hq hr hok hle hlt hsw hA4
      go_wp2_with fail
      have B5 := Lib.hid (B4.out.alloc B4.out.size (tmCells s.head a4 s.args.length c4))
      generalize w4.alloc (tmCells s.head a4 s.args.length c4) = w5 at LA B5 ⊢
      obtain ⟨_, hA5, _⟩ := LA.out.now
      obtain ⟨_, _, _, hG5, _⟩ := D.out w5 B5.out
      refine (weight_any g s (by omega) w5.heap.size ga gc a4 c4 w5 (Nat.le_refl _) hG5 HSW.out hA5).mono ?_
      rw [show weightV g s = .tuple #[.int .i64 (wtT g s), .int .i64 0] from by unfold weightV; rw [if_pos hes]]
      rintro e w6 ⟨rfl, hb6⟩
      have B6 := Lib.hid (B5.out.trans (hb6.mono B5.out.size))
      clear hb6 hA5 hG5 hes
      go_wp2_with fail
      refine (CA.out _).mono ?_
      rintro e w7 ⟨rfl, hb7⟩
      have B7 := Lib.hid (B6.out.trans (hb7.mono B6.out.size))
      clear hb7 B6 B5 LA
      generalize wtT g s = zs at *
      generalize wtT g t = zt at *
      by_cases qz : p.length = 0
      · have := hpz qz
        subst this
        go_wp2
        go_ret
        exact ⟨rfl, (D.out _ B7.out).2.2.2.2⟩
      · have := hpz2 (by omega)
        go_wp2
        go_ret
        exact ⟨rfl, (D.out _ B7.out).2.2.2.2⟩
    · clear v0 v1
      have hpl := at_nil hq
      have B4 := Lib.hid (B3.out.trans (hb4.mono B3.out.size))
      clear hb4 hq
      go_wp2_with fail
      have B4a := Lib.hid (B4.out.alloc B4.out.size (tmCells 0 none 0 0))
      refine (CA.out _).mono ?_
      rintro e w5 ⟨rfl, hb5⟩
      have B5 := Lib.hid (B4a.out.trans (hb5.mono B4a.out.size))
      clear hb5
      go_wp2
      go_ret
      exact ⟨rfl, (D.out _ B5.out).2.2.2.2⟩
  · obtain ⟨k, hk⟩ : ∃ k, errT g t = k := ⟨_, rfl⟩
    have hk0 : (k != 0) = true := by rw [← hk]; simpa using qe
    have hwv : weightV g t = .tuple #[.int .i64 0, .int .i64 k] := by unfold weightV; rw [if_neg qe, hk]
    rw [hwv]
    clear hwv hk qe
    obtain ⟨⟨v0, v1⟩, hA0, hI0, _⟩ := D.out w3 B3.out
    go_wp2_with fail
    refine (at_any t p w3.heap.size a c ap cp w3 (Nat.le_refl _) HTW.out hA0 hI0).mono ?_
    rintro e w4 (⟨s, a4, c4, hq, rfl, hsw, hA4, hb4⟩ | ⟨hq, rfl, hb4⟩)
    · clear v0 v1
      have B4 := Lib.hid (B3.out.trans (hb4.mono B3.out.size))
      clear hb4 hq hsw hA4
      go_wp2_with fail
      have B4a := Lib.hid (B4.out.alloc B4.out.size (tmCells s.head a4 s.args.length c4))
      refine (CA.out _).mono ?_
      rintro e w5 ⟨rfl, hb5⟩
      have B5 := Lib.hid (B4a.out.trans (hb5.mono B4a.out.size))
      clear hb5
      go_wp2
      go_ret
      exact ⟨rfl, (D.out _ B5.out).2.2.2.2⟩
    · clear v0 v1
      have hpl := at_nil hq
      have B4 := Lib.hid (B3.out.trans (hb4.mono B3.out.size))
      clear hb4 hq
      go_wp2_with fail
      have B4a := Lib.hid (B4.out.alloc B4.out.size (tmCells 0 none 0 0))
      refine (CA.out _).mono ?_
      rintro e w5 ⟨rfl, hb5⟩
      have B5 := Lib.hid (B4a.out.trans (hb5.mono B4a.out.size))
      clear hb5
      go_wp2
      go_ret
      exact ⟨rfl, (D.out _ B5.out).2.2.2.2⟩

end Go.Proofs.Ytacbkiknpnokcaa
