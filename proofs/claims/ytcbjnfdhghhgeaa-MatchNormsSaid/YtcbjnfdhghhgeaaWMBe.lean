/- What matches, as being made the same by putting terms; the walk of MatchBehind. -/
import Derived.Test.YtcbjnfdhghhgeaaCount
import Derived.Test.YtcbjnfdhghhgeaaAw5
namespace Go.Proofs.Ytcbjnfdhghhgeaa
set_option linter.unusedVariables false
set_option linter.unusedSimpArgs false
open Go.RowKit

theorem ext_spec {p t : T} (hg : bad (T.subs 1 p) = false) : (∀ M, p.ext t [] = some M → ExtS [p] [t] [] M) ∧ (p.ext t [] = none → ∀ θ, p.sub θ ≠ t) := by
  have h := exts_spec _ [p] (Nat.le_refl _) (by intro q hq; simp at hq; subst hq; exact hg) [t] [] rfl (by simp [KN])
  rw [exts_one] at h
  exact ⟨h.1, fun hn θ e => h.2 hn θ (by intro q hq; simp at hq) (by simp [e])⟩
theorem ext_some {p t : T} (hg : bad (T.subs 1 p) = false) {M : Sb} (h : p.ext t [] = some M) : p.sub (ofS M) = t := by
  have hE := (ext_spec hg).1 M h
  have := ((hE.agr (ofS M)).1 (agr_self hE.kn)).2
  simpa using this
theorem MtR.iff {p t : T} {s : Sb} {b : Bool} {k : Int} (h : MtR p t s b k) (hk : k = 0) : b = true ↔ ∃ θ : Int → T, p.sub θ = t := by
  rcases h with ⟨_, _, _, rfl⟩ | ⟨hg, ⟨hn, _, rfl, _⟩ | ⟨M, hM, _, rfl, _⟩⟩
  · cases hk
  · constructor
    · intro h; cases h
    · rintro ⟨θ, e⟩
      exact absurd e ((ext_spec (check_ok hg.1).2.2).2 hn θ)
  · exact ⟨fun _ => ⟨_, ext_some (check_ok hg.1).2.2 hM⟩, fun _ => rfl⟩
theorem MtR.good {p t : T} {s : Sb} {b : Bool} {k : Int} (h : MtR p t s b k) (hk : k = 0) : p.check = 0 ∧ t.check = 0 := by
  rcases h with ⟨_, _, _, rfl⟩ | ⟨hg, _⟩
  · cases hk
  · exact hg

set_option maxRecDepth 100000 in
set_option maxHeartbeats 8000000 in
theorem matchBehind_walk (x y z : T) (a : Option Addr) (c : Nat) (a' : Option Addr) (c' : Nat) (a'' : Option Addr) (c'' : Nat) (w : World) (hxw : (Lit.int .i64 x.head).wf = true) (hyw : (Lit.int .i64 y.head).wf = true) (hzw : (Lit.int .i64 z.head).wf = true) (hA : IsArgs w.heap.size w x.args a c) (hB : IsArgs w.heap.size w y.args a' c') (hC : IsArgs w.heap.size w z.args a'' c'') :
    Calls Try.prog 12 #[tm x.head a x.args.length c, tm y.head a' y.args.length c', tm z.head a'' z.args.length c''] w fun e w' => e = .returned (.bool true) ∧ Below w.heap.size w w' := by
  have HXW := Lib.hid hxw
  have HYW := Lib.hid hyw
  have HZW := Lib.hid hzw
  have d0 := ((((((Later.below (Below.refl _ w)).and (later_args hC)).and (later_args hB)).and (later_args hA)).push (Below.refl _ _) x.head a x.args.length c).push (Below.refl _ _) y.head a' y.args.length c').push (Below.refl _ _) z.head a'' z.args.length c''
  simp only [heap_alloc_size] at d0
  have D := Lib.hid d0
  clear hxw hyw hzw hA hB hC d0
  go_enter Try.func12, Try.ntmps12
  go_wp2_with fail
  generalize ((w.alloc (.cells #[.int .i64 x.head, .slice a x.args.length c] 25)).alloc (.cells #[.int .i64 y.head, .slice a' y.args.length c'] 25)).alloc (.cells #[.int .i64 z.head, .slice a'' z.args.length c''] 25) = w1 at D ⊢
  generalize hb0 : w.heap.size = b0 at D ⊢
  have HB0 := Lib.hid hb0
  clear hb0
  refine (few_any x w1.heap.size a c w1 (Nat.le_refl _) D.out.now.2.2.2.1).mono ?_
  rintro e w2 ⟨rfl, hb⟩
  have D2 := Lib.hid (D.out.mv hb)
  clear hb D
  by_cases hx5 : x.size ≤ 500
  case neg =>
    rw [decide_eq_false hx5]
    have HQ := Lib.hid D2.out.now.2.2.2.2.2.2
    clear D2
    go_wp2
    go_ret
    exact ⟨rfl, by rw [HB0.out]; exact HQ.out⟩
  rw [decide_eq_true hx5]
  obtain ⟨⟨z0, z1⟩, ⟨y0, y1⟩, ⟨x0, x1⟩, _⟩ := D2.out.now
  go_wp2_with fail
  clear y0 y1 x0 x1 z0 z1
  refine (few_any y w2.heap.size a' c' w2 (Nat.le_refl _) D2.out.now.2.2.2.2.1).mono ?_
  rintro e w3 ⟨rfl, hb⟩
  have D3 := Lib.hid (D2.out.mv hb)
  clear hb D2
  by_cases hy5 : y.size ≤ 500
  case neg =>
    rw [decide_eq_false hy5]
    have HQ := Lib.hid D3.out.now.2.2.2.2.2.2
    clear D3
    go_wp2
    go_ret
    exact ⟨rfl, by rw [HB0.out]; exact HQ.out⟩
  rw [decide_eq_true hy5]
  obtain ⟨⟨z0, z1⟩, ⟨y0, y1⟩, ⟨x0, x1⟩, _⟩ := D3.out.now
  go_wp2_with fail
  clear y0 y1 x0 x1 z0 z1
  refine (few_any z w3.heap.size a'' c'' w3 (Nat.le_refl _) D3.out.now.2.2.2.2.2.1).mono ?_
  rintro e w4 ⟨rfl, hb⟩
  have D4 := Lib.hid (D3.out.mv hb)
  clear hb D3
  by_cases hz5 : z.size ≤ 500
  case neg =>
    rw [decide_eq_false hz5]
    have HQ := Lib.hid D4.out.now.2.2.2.2.2.2
    clear D4
    go_wp2
    go_ret
    exact ⟨rfl, by rw [HB0.out]; exact HQ.out⟩
  rw [decide_eq_true hz5]
  obtain ⟨⟨z0, z1⟩, ⟨y0, y1⟩, ⟨x0, x1⟩, _⟩ := D4.out.now
  go_wp2_with fail
  clear y0 y1 x0 x1 z0 z1
  refine (match_any x y (by omega) (by omega) w4.heap.size a c a' c' w4 (Nat.le_refl _) HXW.out HYW.out D4.out.now.2.2.2.1 D4.out.now.2.2.2.2.1).mono ?_
  rintro e w5 ⟨s1, b1, k1, as1, cs1, rfl, _, hb, hR⟩
  have D5 := Lib.hid (D4.out.mv hb)
  have R1 := Lib.hid hR
  clear hb hR D4
  obtain ⟨⟨z0, z1⟩, ⟨y0, y1⟩, ⟨x0, x1⟩, _⟩ := D5.out.now
  go_wp2_with fail
  clear y0 y1 x0 x1 z0 z1
  refine (match_any y z (by omega) (by omega) w5.heap.size a' c' a'' c'' w5 (Nat.le_refl _) HYW.out HZW.out D5.out.now.2.2.2.2.1 D5.out.now.2.2.2.2.2.1).mono ?_
  rintro e w6 ⟨s2, b2, k2, as2, cs2, rfl, _, hb, hR⟩
  have D6 := Lib.hid (D5.out.mv hb)
  have R2 := Lib.hid hR
  clear hb hR D5
  obtain ⟨⟨z0, z1⟩, ⟨y0, y1⟩, ⟨x0, x1⟩, _⟩ := D6.out.now
  go_wp2_with fail
  clear y0 y1 x0 x1 z0 z1
  refine (match_any x z (by omega) (by omega) w6.heap.size a c a'' c'' w6 (Nat.le_refl _) HXW.out HZW.out D6.out.now.2.2.2.1 D6.out.now.2.2.2.2.2.1).mono ?_
  rintro e w7 ⟨s3, b3, k3, as3, cs3, rfl, _, hb, hR⟩
  have D7 := Lib.hid (D6.out.mv hb)
  have R3 := Lib.hid hR
  clear hb hR D6
  obtain ⟨⟨z0, z1⟩, ⟨y0, y1⟩, ⟨x0, x1⟩, _⟩ := D7.out.now
  go_wp2_with fail
  clear y0 y1 x0 x1 z0 z1
  refine (match_any x x (by omega) (by omega) w7.heap.size a c a c w7 (Nat.le_refl _) HXW.out HXW.out D7.out.now.2.2.2.1 D7.out.now.2.2.2.1).mono ?_
  rintro e w8 ⟨s4, b4, k4, as4, cs4, rfl, _, hb, hR⟩
  have D8 := Lib.hid (D7.out.mv hb)
  have R4 := Lib.hid hR
  clear hb hR D7
  by_cases q : k1 = 0 ∧ k2 = 0 ∧ k3 = 0 ∧ k4 = 0
  case neg =>
    have CC := Lib.hid (awake5_any w8)
    have HQ := Lib.hid (show ∀ W, Below w8.heap.size w8 W → Below b0 w W from fun W hW => (D8.out W hW).2.2.2.2.2.2)
    clear R1 R2 R3 R4 D8
    by_cases q1 : k1 = 0
    case neg =>
      have hne : (k1 == 0) = false := by simpa using q1
      go_wp2_with fail
      refine CC.out.mono ?_
      rintro e w9 ⟨rfl, hb⟩
      have HF := Lib.hid (HQ.out w9 hb)
      clear hb
      go_wp2
      go_ret
      exact ⟨rfl, by rw [HB0.out]; exact HF.out⟩
    subst q1
    by_cases q2 : k2 = 0
    case neg =>
      have hne : (k2 == 0) = false := by simpa using q2
      go_wp2_with fail
      refine CC.out.mono ?_
      rintro e w9 ⟨rfl, hb⟩
      have HF := Lib.hid (HQ.out w9 hb)
      clear hb
      go_wp2
      go_ret
      exact ⟨rfl, by rw [HB0.out]; exact HF.out⟩
    subst q2
    by_cases q3 : k3 = 0
    case neg =>
      have hne : (k3 == 0) = false := by simpa using q3
      go_wp2_with fail
      refine CC.out.mono ?_
      rintro e w9 ⟨rfl, hb⟩
      have HF := Lib.hid (HQ.out w9 hb)
      clear hb
      go_wp2
      go_ret
      exact ⟨rfl, by rw [HB0.out]; exact HF.out⟩
    subst q3
    have q4 : ¬ k4 = 0 := fun h => q ⟨rfl, rfl, rfl, h⟩
    have hne : (k4 == 0) = false := by simpa using q4
    clear q
    go_wp2_with fail
    refine CC.out.mono ?_
    rintro e w9 ⟨rfl, hb⟩
    have HF := Lib.hid (HQ.out w9 hb)
    clear hb
    go_wp2
    go_ret
    exact ⟨rfl, by rw [HB0.out]; exact HF.out⟩
  obtain ⟨rfl, rfl, rfl, rfl⟩ := q
  have i1 := R1.out.iff rfl
  have i2 := R2.out.iff rfl
  have i3 := R3.out.iff rfl
  have i4 := R4.out.iff rfl
  have hg := (check_ok (R1.out.good rfl).1).2.2
  obtain rfl : b4 = true := i4.2 ⟨_, sub_vt hg⟩
  have hkey : b1 = true → b2 = true → b3 = true := fun h1 h2 => by
    obtain ⟨θ, e1⟩ := i1.1 h1
    obtain ⟨φ, e2⟩ := i2.1 h2
    exact i3.2 ⟨_, by rw [← T.sub_sub, e1]; exact e2⟩
  clear i1 i2 i3 i4 hg R1 R2 R3 R4
  go_wp2_with fail
  refine (awake5_any w8).mono ?_
  rintro e w9 ⟨rfl, hb⟩
  have HF := Lib.hid (D8.out w9 hb).2.2.2.2.2.2
  clear hb D8
  cases b1 <;> cases b2 <;> cases b3 <;> first | (exact Bool.noConfusion (hkey rfl rfl)) | (clear hkey; go_wp2_with fail; go_ret; exact ⟨rfl, by rw [HB0.out]; exact HF.out⟩)

end Go.Proofs.Ytcbjnfdhghhgeaa
