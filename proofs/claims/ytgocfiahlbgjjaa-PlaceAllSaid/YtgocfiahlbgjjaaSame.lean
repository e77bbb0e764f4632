/- Contracts of Same, Ints, and of the statement's example (awake). -/
import Derived.Test.YtgocfiahlbgjjaaUntil
import Derived.Test.YtgocfiahlbgjjaaVars
namespace Go.Proofs.Ytgocfiahlbgjjaa
set_option linter.unusedVariables false
set_option linter.unusedSimpArgs false
open Go.RowKit

def sameB (x y : T) : Bool := (resume [([x], [y])]).isNone
theorem sameB_iff (x y : T) : sameB x y = true ↔ x = y := by rw [sameB, Option.isNone_iff_eq_none, resume_none_iff]

set_option maxRecDepth 100000 in
set_option maxHeartbeats 1000000 in
theorem same_any (x y : T) (hx : x.size ≤ 1000000) (n₀ : Nat) (a : Option Addr) (c : Nat) (a' : Option Addr) (c' : Nat) (w : World) (hn : n₀ ≤ w.heap.size) (hxw : (Lit.int .i64 x.head).wf = true) (hyw : (Lit.int .i64 y.head).wf = true) (hA : IsArgs n₀ w x.args a c) (hB : IsArgs n₀ w y.args a' c') :
    Calls Try.prog 14 #[tm x.head a x.args.length c, tm y.head a' y.args.length c'] w fun e w' => e = .returned (.bool (sameB x y)) ∧ Below w.heap.size w w' := by
  have HA := Lib.hid (hA.mono hn)
  have HB := Lib.hid (hB.mono hn)
  clear hA hB hn n₀
  go_enter Try.func14, Try.ntmps14
  go_wp2_with fail
  have hb : Below w.heap.size w ((w.alloc (tmCells x.head a x.args.length c)).alloc (tmCells y.head a' y.args.length c')) := ((Below.refl _ w).alloc (Nat.le_refl _) _).alloc (by simp) _
  refine (until_any x y hx w.heap.size a c a' c' _ (by simp; omega) hxw hyw (HA.out.below hb) (HB.out.below hb)).mono ?_
  rintro e w2 ⟨v, fs, vs, rfl, hO, _, hr, hb2⟩
  have HB2 := Lib.hid (hb.trans (hb2.mono (by simp; omega)))
  have HR := Lib.hid hr
  clear hb hb2 hr
  have hv : ∃ a1 c1, v = .slice a1 fs.length c1 := by
    rcases hO.2 with ⟨h, h0⟩ | ⟨g, cap, cur, h, _⟩
    · exact ⟨_, _, by rw [h, h0]⟩
    · exact ⟨_, _, h⟩
  obtain ⟨a1, c1, rfl⟩ := hv
  clear hO
  go_wp2
  go_ret
  refine ⟨?_, HB2.out⟩
  have h := HR.out
  cases fs with
  | nil => simp [sameB, h]
  | cons f fs =>
    rw [if_neg (by simp)] at h
    rw [sameB, h]
    simp
    omega

theorem below_drewN (B : Nat) (w : World) (n : Nat) : Below B w (w.drewN n) := by
  induction n with
  | zero => exact Below.refl _ _
  | succ n ih => exact ih.trans ⟨rfl, rfl, rfl, Nat.le_refl _, fun _ _ => rfl⟩

/-- Two rows of numbers. -/
theorem ints_same (u v : Value) (zs : List Int) (w : World) (hne : zs ≠ []) (hu : IsInts w u zs) (hv : IsInts w v zs) :
    Calls Try.prog 36 #[u, v] w fun e w' => e = .returned (.bool true) ∧ Below w.heap.size w w' := by
  rcases hu with ⟨_, h⟩ | ⟨g, cap, rfl, hg, hl, hm, hc⟩
  · exact absurd h hne
  rcases hv with ⟨_, h⟩ | ⟨g', cap', rfl, hg', hl', hm', hc'⟩
  · exact absurd h hne
  have HC := Lib.hid hc
  have HC' := Lib.hid hc'
  clear hc hc' hne
  unfold maxLen at hm hm'
  go_enter Try.func36, Try.ntmps36
  go_wp2
  go_loopw [5] (fun i wr => ∃ k : Nat, k ≤ zs.length ∧ i = .int .i64 k ∧ ∃ n, wr = w.drewN n) (fun i _ => zs.length - (intOf i).toNat)
  case atStart => exact ⟨0, Nat.zero_le _, rfl, 0, rfl⟩
  case round =>
    obtain ⟨k, hk, rfl, n, rfl⟩ := hrel
    by_cases hlt : k < zs.length
    · have h1 : w.cell? ⟨g, k, none⟩ = some (.int .i64 zs[k]) := HC.out k _ (List.getElem?_eq_getElem hlt)
      have h2 : w.cell? ⟨g', k, none⟩ = some (.int .i64 zs[k]) := HC'.out k _ (List.getElem?_eq_getElem hlt)
      go_wp2
      go_quiet (fail)
      go_wp2
      exact ⟨⟨k + 1, by omega, by go_num, _, rfl⟩, by simp [intOf]; omega⟩
    · go_wp2
      go_ret
      exact ⟨rfl, below_drewN _ _ _⟩

/-! ### The statements' example -/
def T0 : T := .node 4 [.node (-2) [], .node 3 [.node (-1) []]]

theorem awake_mem {w2 w3 w4 : World} (b3 : Below (w2.alloc (.cells #[.int .i64 (-1), .slice none 0 0] 24)).heap.size (w2.alloc (.cells #[.int .i64 (-1), .slice none 0 0] 24)) w3)
    (b4 : Below (w3.alloc (.cells #[.int .i64 (-2), .slice none 0 0, .int .i64 3, .slice (some ⟨w2.heap.size, 0, none⟩) 1 1] 24)).heap.size (w3.alloc (.cells #[.int .i64 (-2), .slice none 0 0, .int .i64 3, .slice (some ⟨w2.heap.size, 0, none⟩) 1 1] 24)) w4) :
    IsArgs w4.heap.size w4 T0.args (some ⟨w3.heap.size, 0, none⟩) 2 := by
  have s3 : w2.heap.size + 1 ≤ w3.heap.size := by have := b3.size; simpa using this
  have s4 : w3.heap.size + 1 ≤ w4.heap.size := by have := b4.size; simpa using this
  have c2 : ∀ i, w4.cell? ⟨w3.heap.size, i, none⟩ = (#[Value.int .i64 (-2), .slice none 0 0, .int .i64 3, .slice (some ⟨w2.heap.size, 0, none⟩) 1 1] : Array Value)[i]? := fun i => (b4.cell (p := ⟨w3.heap.size, i, none⟩) (by simp)).trans (by simp)
  have c1 : ∀ i, w4.cell? ⟨w2.heap.size, i, none⟩ = (#[Value.int .i64 (-1), .slice none 0 0] : Array Value)[i]? := fun i =>
    (b4.cell (p := ⟨w2.heap.size, i, none⟩) (by simp; omega)).trans ((World.cell?_of_block (a := ⟨w2.heap.size, i, none⟩) (Below.heap_alloc _ _ _ (by simp; omega))).trans ((b3.cell (p := ⟨w2.heap.size, i, none⟩) (by simp)).trans (by simp)))
  refine ⟨by simp [T0, T.args], by simp [maxLen], .inr ⟨_, _, rfl, by omega, ?_⟩⟩
  simp only [T0, T.args, IsRow, IsT, and_true]
  refine ⟨⟨by decide, by rw [c2]; rfl, none, 0, by rw [c2]; rfl, by simp, by simp [maxLen], .inl trivial⟩, ⟨by decide, by rw [c2]; rfl, some ⟨w2.heap.size, 0, none⟩, 1, by rw [c2]; rfl, by simp, by simp [maxLen], .inr ⟨_, _, rfl, by omega, ?_⟩⟩⟩
  exact ⟨by decide, by rw [c1]; rfl, none, 0, by rw [c1]; rfl, by simp, by simp [maxLen], .inl trivial⟩

set_option maxRecDepth 100000 in
set_option maxHeartbeats 1000000 in
theorem awake_any (w : World) : Calls Try.prog 13 #[] w fun e w' => e = .returned (.bool true) ∧ Below w.heap.size w w' := by
  go_enter Try.func13, Try.ntmps13
  go_wp2_with fail
  refine (var_any 1 _ (by omega) (by omega)).mono ?_
  rintro e w1 ⟨rfl, hb1⟩
  have B1 := Lib.hid hb1
  clear hb1
  go_wp2_with fail
  refine (var_any 0 _ (by omega) (by omega)).mono ?_
  rintro e w2 ⟨rfl, hb2⟩
  have B2 := Lib.hid (B1.out.trans (hb2.mono B1.out.size))
  clear hb2 B1
  go_wp2_with fail
  refine (fun_any 3 _ _ _ _).mono ?_
  rintro e w3 ⟨rfl, hb3⟩
  have B3 := Lib.hid hb3
  clear hb3
  go_wp2_with fail
  refine (fun_any 4 _ _ _ _).mono ?_
  rintro e w4 ⟨rfl, hb4⟩
  have B4 := Lib.hid hb4
  clear hb4
  go_wp2_with fail
  have hm := awake_mem B3.out B4.out
  have hb5 : Below w4.heap.size w4 (w4.alloc (.cells #[.int .i64 4, .slice (some ⟨w3.heap.size, 0, none⟩) 2 2] 24)) := (Below.refl _ _).alloc (Nat.le_refl _) _
  have hw5 : Below w.heap.size w (w4.alloc (.cells #[.int .i64 4, .slice (some ⟨w3.heap.size, 0, none⟩) 2 2] 24)) := by
    have e3 := B3.out.size
    have e4 := B4.out.size
    have e2 := B2.out.size
    simp at e3 e4
    exact (((((B2.out.alloc e2 _).trans (B3.out.mono (by simp; omega))).alloc (by omega) _).trans (B4.out.mono (by simp; omega))).alloc (by omega) _)
  have t1 : (w4.alloc (.cells #[.int .i64 4, .slice (some ⟨w3.heap.size, 0, none⟩) 2 2] 24)).cell? ⟨w4.heap.size, 0, none⟩ = some (.int .i64 4) := by simp
  have t2 : (w4.alloc (.cells #[.int .i64 4, .slice (some ⟨w3.heap.size, 0, none⟩) 2 2] 24)).cell? ⟨w4.heap.size, 1, none⟩ = some (.slice (some ⟨w3.heap.size, 0, none⟩) 2 2) := by simp
  have hs5 : w4.heap.size < (w4.alloc (.cells #[.int .i64 4, .slice (some ⟨w3.heap.size, 0, none⟩) 2 2] 24)).heap.size := by simp
  have hm5 := hm.below hb5
  generalize w4.alloc (.cells #[.int .i64 4, .slice (some ⟨w3.heap.size, 0, none⟩) 2 2] 24) = w5 at hb5 hw5 t1 t2 hs5 hm5 ⊢
  generalize w4.heap.size = bt at hm hb5 t1 t2 hs5 hm5 ⊢
  generalize w3.heap.size = b2 at *
  clear B3 B4 hm hb5 B2
  have W5 := Lib.hid hw5
  have M5 := Lib.hid (hm5.mono (Nat.le_of_lt hs5))
  clear hw5 hm5
  have T1 := Lib.hid t1
  have T2 := Lib.hid t2
  have hsz : ∀ W, Below w5.heap.size w5 W → Calls Try.prog 18 #[.agg #[.int .i64 4, .slice (some ⟨b2, 0, none⟩) 2 2]] W fun e w' => e = .returned (.int .i64 4) ∧ Below W.heap.size W w' := fun W h => size_any T0 (by decide) w5.heap.size _ 2 W h.size (by decide) (M5.out.below h)
  have hdp : ∀ W, Below w5.heap.size w5 W → Calls Try.prog 19 #[.agg #[.int .i64 4, .slice (some ⟨b2, 0, none⟩) 2 2]] W fun e w' => e = .returned (.int .i64 3) ∧ Below W.heap.size W w' := fun W h => depth_any T0 (by decide) w5.heap.size _ 2 W h.size (by decide) (M5.out.below h)
  have hck : ∀ W, Below w5.heap.size w5 W → Calls Try.prog 20 #[.agg #[.int .i64 4, .slice (some ⟨b2, 0, none⟩) 2 2]] W fun e w' => e = .returned (.int .i64 0) ∧ Below W.heap.size W w' := fun W h => check_any T0 (by decide) w5.heap.size _ 2 W h.size (by decide) (M5.out.below h)
  have hvr : ∀ W, Below w5.heap.size w5 W → Calls Try.prog 41 #[.agg #[.int .i64 4, .slice (some ⟨b2, 0, none⟩) 2 2]] W (varsPost T0 W) := fun W h => vars_any T0 (by decide) w5.heap.size _ 2 W h.size (by decide) (M5.out.below h)
  have hsm : ∀ W, Below w5.heap.size w5 W → Calls Try.prog 14 #[.agg #[.int .i64 4, .slice (some ⟨b2, 0, none⟩) 2 2], .agg #[.int .i64 4, .slice (some ⟨b2, 0, none⟩) 2 2]] W fun e w' => e = .returned (.bool true) ∧ Below W.heap.size W w' := fun W h =>
    (same_any T0 T0 (by decide) w5.heap.size _ 2 _ 2 W h.size (by decide) (by decide) (M5.out.below h) (M5.out.below h)).mono fun e w' hh => ⟨by rw [hh.1, (sameB_iff T0 T0).2 rfl], hh.2⟩
  have HSZ := Lib.hid hsz
  have HDP := Lib.hid hdp
  have HCK := Lib.hid hck
  have HVR := Lib.hid hvr
  have HSM := Lib.hid hsm
  clear hsz hdp hck hvr hsm
  refine (HSZ.out _ (Below.refl _ _)).mono ?_
  rintro e w6 ⟨rfl, hb6⟩
  have t1 := (hb6.cell (p := ⟨bt, 0, none⟩) hs5).trans T1.out
  have t2 := (hb6.cell (p := ⟨bt, 1, none⟩) hs5).trans T2.out
  have B6 := Lib.hid hb6
  clear hb6
  go_wp2_with fail
  refine (HDP.out _ B6.out).mono ?_
  rintro e w7 ⟨rfl, hb7⟩
  have hb7 := B6.out.trans (hb7.mono B6.out.size)
  clear t1 t2
  have t1 := (hb7.cell (p := ⟨bt, 0, none⟩) hs5).trans T1.out
  have t2 := (hb7.cell (p := ⟨bt, 1, none⟩) hs5).trans T2.out
  have B7 := Lib.hid hb7
  clear hb7 B6
  go_wp2_with fail
  refine (HVR.out _ B7.out).mono ?_
  rintro e w8 ⟨v, rfl, hI8, hb8⟩
  have hb8 := B7.out.trans (hb8.mono B7.out.size)
  clear t1 t2
  have B8 := Lib.hid hb8
  have I8 := Lib.hid hI8
  clear hb8 B7 hI8
  go_wp2_with fail
  have hb9 : Below w8.heap.size w8 (w8.alloc (.cells #[.int .i64 1, .int .i64 0] 3)) := (Below.refl _ _).alloc (Nat.le_refl _) _
  have hv1 : IsInts (w8.alloc (.cells #[.int .i64 1, .int .i64 0] 3)) v [1, 0] := I8.out.below hb9
  have hv2 : IsInts (w8.alloc (.cells #[.int .i64 1, .int .i64 0] 3)) (.slice (some ⟨w8.heap.size, 0, none⟩) 2 2) [1, 0] := by
    refine .inr ⟨_, _, rfl, by simp, by simp, by simp [maxLen], fun j z hz => ?_⟩
    match j, hz with
    | 0, hz => simp at hz; subst hz; simp
    | 1, hz => simp at hz; subst hz; simp
    | j + 2, hz => simp at hz
  refine (ints_same _ _ [1, 0] _ (by simp) hv1 hv2).mono ?_
  rintro e w10 ⟨rfl, hb10⟩
  have hb10 := B8.out.trans ((hb9.trans (hb10.mono (by simp))).mono B8.out.size)
  clear hv1 hv2 hb9
  have t1 := (hb10.cell (p := ⟨bt, 0, none⟩) hs5).trans T1.out
  have t2 := (hb10.cell (p := ⟨bt, 1, none⟩) hs5).trans T2.out
  have B10 := Lib.hid hb10
  clear hb10 B8 I8
  go_wp2_with fail
  refine (HCK.out _ B10.out).mono ?_
  rintro e w11 ⟨rfl, hb11⟩
  have hb11 := B10.out.trans (hb11.mono B10.out.size)
  clear t1 t2
  have t1 := (hb11.cell (p := ⟨bt, 0, none⟩) hs5).trans T1.out
  have t2 := (hb11.cell (p := ⟨bt, 1, none⟩) hs5).trans T2.out
  have B11 := Lib.hid hb11
  clear hb11 B10
  go_wp2_with fail
  refine (HSM.out _ B11.out).mono ?_
  rintro e w12 ⟨rfl, hb12⟩
  have B12 := Lib.hid (W5.out.trans ((B11.out.trans (hb12.mono B11.out.size)).mono W5.out.size))
  clear hb12 B11 t1 t2
  go_wp2
  go_ret
  exact ⟨rfl, B12.out⟩

end Go.Proofs.Ytgocfiahlbgjjaa
