/- QBf: joined of SgB, SgC, RCp0, Mem, Hd0, Wg0, Kb, Kb3, Kwc, Kb5, Rv0, Sb0. -/
import Derived.Test.YtbdabdjpgmnejaaQBe
import Derived.Lib.QuietBelow
import Derived.Deep.QuietTactic
import Derived.BigQuiet
import Derived.WalkSmall
import Derived.Test.YtbdabdjpgmnejaaQBa
import Derived.Deep.AppendLies
import Derived.Deep.RegionLaw
import Derived.Maps.OwnSet
import Derived.Deep.OwnRows
import Derived.IntWalk
import Derived.Test.YtbdabdjpgmnejaaQBc
import Derived.Maps.RangeWalk
import Derived.Test.YtbdabdjpgmnejaaQBd
import Derived.Test.YtbdabdjpgmnejaaQBb
import Derived.Test.YtbdabdjpgmnejaaSam0
import Derived.Maps.AppendAt
import Derived.Laws.AppendOwnNone
import Derived.StillTailTactics
import Derived.Shelf.SlSortCmp.WholeK
import Derived.Shelf.SlGeneric
import Derived.Ground.SlsfProg
import Derived.Calls
import Derived.Deep.RegionHeld3
import Derived.Deep.DeepCutAuto
import Derived.Deep.RegionWith
import Derived.RangeFuncNested
import Derived.RangeFuncBound
import Derived.RangeFuncCalls
import Derived.RangeFuncLeaves
import Derived.Shelf.Abstract
import Derived.Shelf.RegionOpen
import Derived.OwnWalkIn
import Derived.TacticsInMore
import Derived.LoopNIn
import Derived.LoopIn
import Derived.Lib.Hide
/- Contracts of weigh's fits, anyPredicate and Term. -/
namespace Go.Proofs.Ytbdabdjpgmnejaa
set_option linter.unusedVariables false
set_option linter.unusedSimpArgs false
open Go.RowKit
theorem bl_drew (W : World) (n : Nat) : Below W.heap.size W (W.drewN n) := ⟨rfl, rfl, rfl, Nat.le_refl _, fun _ _ => rfl⟩
/-- What is asked of a predicate on terms. -/
def PredT (f : Nat) (lb : Array Value) (p : T → Bool) (ts : List T) (n₀ : Nat) (w : World) : Prop :=
  ∀ (W : World) (t : T) (a : Option Addr) (c : Nat), t ∈ ts → Below w.heap.size w W → (Lit.int .i64 t.head).wf = true → IsArgs n₀ W t.args a c →
    Calls Try.prog f (#[tm t.head a t.args.length c] ++ lb) W fun e w' => e = .returned (.bool (p t)) ∧ Below W.heap.size W w'
def IdxT (p : T → Bool) (ts : List T) (w : World) (i : Value) (wr : World) : Prop := ∃ k : Nat, k ≤ ts.length ∧ i = .int .i64 k ∧ ts.any p = (ts.drop k).any p ∧ Below w.heap.size w wr
set_option maxRecDepth 100000 in
set_option maxHeartbeats 2000000 in
theorem indexT_any (p : T → Bool) (f : Nat) (lb : Array Value) (eg : ∀ args w, (callFunc f args).run Try.prog w = .ok (.enter f args) w) (ts : List T) (n₀ : Nat) (a : Option Addr) (c : Nat) (w : World) (hn : n₀ ≤ w.heap.size) (hA : IsArgs n₀ w ts a c)
    (hp : PredT f lb p ts n₀ w) :
    Calls Try.prog 66 #[.slice a ts.length c, .func (.func f) #[] lb] w fun e w' => ∃ j : Int, e = .returned (.int .i64 j) ∧ decide (0 ≤ j) = ts.any p ∧ Below w.heap.size w w' := by
  have hlc : ts.length ≤ c ∧ c ≤ maxLen := ⟨hA.1, hA.2.1⟩
  unfold maxLen at hlc
  obtain ⟨hl1, hl2⟩ := hlc
  have HA := Lib.hid hA
  have HP := Lib.hid hp
  clear hA hp
  go_enter Try.func66, Try.ntmps66
  go_wp2
  go_loopw [8] (fun i wr => IdxT p ts w i wr) (fun i _ => ts.length - (intOf i).toNat)
  case atStart => exact ⟨0, Nat.zero_le _, rfl, by simp, Below.refl _ _⟩
  case round =>
    obtain ⟨k, hk, rfl, hbd, hB⟩ := hrel
    have HBD := Lib.hid hbd
    have HB := Lib.hid hB
    have hbz := hB.size
    clear hbd hB
    by_cases hlt : k < ts.length
    · obtain ⟨b, o, s, a', c', rfl, hbn, hs, hswf, hc1, hc2, hA'⟩ := (HA.out.below (HB.out.mono hn)).elem (i := k) hlt
      have hk0 : (0 : Int) ≤ (k : Int) := Int.natCast_nonneg _
      have hk1 : (k : Int) < (ts.length : Int) := by omega
      have hbw : b < wr.heap.size := by omega
      have hcall := HP.out wr s a' c' (List.mem_of_getElem? hs) HB.out hswf hA'
      have hst : (ts.drop k).any p = (p s || (ts.drop (k + 1)).any p) := by
        obtain ⟨hkl, hke⟩ := List.getElem?_eq_some_iff.1 hs
        rw [List.drop_eq_getElem_cons hkl, hke]; rfl
      have HSTEP := Lib.hid hst
      clear hs hswf hA' hst
      cases hd : p s with
      | false =>
        rw [hd] at hcall
        have H0 := Lib.hid (show (ts.drop k).any p = (ts.drop (k + 1)).any p from by rw [HSTEP.out, hd]; rfl)
        clear hd
        go_wp2_with (go_at_fn f; refine hcall.mono ?_; rintro e w2 ⟨rfl, hb2⟩)
        have HB2 := Lib.hid (HB.out.trans (hb2.mono hbz))
        clear hb2
        go_roundw
        case rel => exact ⟨k + 1, by omega, by go_num, HBD.out.trans H0.out, HB2.out⟩
        case measure => simp [intOf]; omega
      | true =>
        rw [hd] at hcall
        have H0 := Lib.hid (show ts.any p = true from by rw [HBD.out, HSTEP.out, hd]; rfl)
        clear hd
        go_wp2_with (go_at_fn f; refine hcall.mono ?_; rintro e w2 ⟨rfl, hb2⟩)
        have HB2 := Lib.hid (HB.out.trans (hb2.mono hbz))
        clear hb2
        go_ret
        exact ⟨(k : Int), rfl, by rw [H0.out]; simp, HB2.out⟩
    · obtain rfl : k = ts.length := by omega
      have H0 := Lib.hid (show ts.any p = false from by rw [HBD.out, List.drop_of_length_le (Nat.le_refl _)]; rfl)
      go_wp2
      go_ret
      exact ⟨-1, rfl, by rw [H0.out]; rfl, HB.out⟩
theorem containsT_any (p : T → Bool) (f : Nat) (lb : Array Value) (eg : ∀ args w, (callFunc f args).run Try.prog w = .ok (.enter f args) w) (ts : List T) (n₀ : Nat) (a : Option Addr) (c : Nat) (w : World) (hn : n₀ ≤ w.heap.size) (hA : IsArgs n₀ w ts a c)
    (hp : PredT f lb p ts n₀ w) :
    Calls Try.prog 51 #[.slice a ts.length c, .func (.func f) #[] lb] w fun e w' => e = .returned (.bool (ts.any p)) ∧ Below w.heap.size w w' := by
  have CI := Lib.hid (indexT_any p f lb eg ts n₀ a c w hn hA hp)
  clear hA hp eg
  go_enter Try.func51, Try.ntmps51
  go_wp2_with fail
  refine CI.out.mono ?_
  rintro e w2 ⟨j, rfl, hj, hb⟩
  have HJ := Lib.hid hj
  have HB := Lib.hid hb
  clear hj hb
  go_wp2
  go_ret
  exact ⟨by rw [← HJ.out]; rfl, HB.out⟩
/-- The closure of fits. -/
theorem fits1_any (g : Sg) (ga : Option Addr) (gc : Nat) (t : T) (a : Option Addr) (c : Nat) (B : Nat) (W : World) (hB : B < W.heap.size) (hcell : W.cell? ⟨B, 0, none⟩ = some (.slice ga g.length gc))
    (hF : ∀ X, Below W.heap.size W X → Calls Try.prog 73 #[.slice ga g.length gc, tm t.head a t.args.length c] X fun e w' => e = .returned (.bool (fitsT g t)) ∧ Below X.heap.size X w') :
    Calls Try.prog 75 #[tm t.head a t.args.length c, .pointer (some ⟨B, 0, none⟩)] W fun e w' => e = .returned (.bool (!fitsT g t)) ∧ Below W.heap.size W w' := by
  have HF := Lib.hid hF
  clear hF
  have hne : B ≠ W.heap.size := by omega
  go_enter Try.func75, Try.ntmps75
  go_wp2_with fail
  refine (HF.out _ ((Below.refl _ _).alloc (Nat.le_refl _) _)).mono ?_
  rintro e w2 ⟨rfl, hb2⟩
  have HB2 := Lib.hid (((Below.refl _ W).alloc (Nat.le_refl _) _).trans (hb2.mono (by simp)))
  clear hb2
  go_wp2
  go_ret
  exact ⟨rfl, HB2.out⟩
set_option maxRecDepth 100000 in
set_option maxHeartbeats 2000000 in
theorem fits_any (g : Sg) : ∀ (N : Nat) (t : T), t.size ≤ N → ∀ (n₀ : Nat) (ga : Option Addr) (gc : Nat) (a : Option Addr) (c : Nat) (w : World), n₀ ≤ w.heap.size → IsSg n₀ w g ga gc → (Lit.int .i64 t.head).wf = true → IsArgs n₀ w t.args a c →
    Calls Try.prog 73 #[.slice ga g.length gc, tm t.head a t.args.length c] w fun e w' => e = .returned (.bool (fitsT g t)) ∧ Below w.heap.size w w' := by
  intro N
  induction N with
  | zero => intro t ht; have := T.size_pos t; omega
  | succ N ih =>
    intro t ht n₀ ga gc a c w hn hG hwf hA
    have IH := Lib.hid ih
    clear ih
    have HE := Lib.hid (fitsT_eq g t)
    have hlc : t.args.length ≤ c ∧ c ≤ maxLen := ⟨hA.1, hA.2.1⟩
    have hlg : g.length ≤ gc ∧ gc ≤ maxLen := ⟨hG.1, hG.2.1⟩
    unfold maxLen at hlc hlg
    obtain ⟨hl1, hl2⟩ := hlc
    obtain ⟨hl3, hl4⟩ := hlg
    have HA := Lib.hid hA
    have HG := Lib.hid hG
    have HS := Lib.hid (show ∀ s ∈ t.args, s.size ≤ N from fun s hs => by
      obtain ⟨i, hi⟩ := List.getElem?_of_mem hs
      have h1 := T.size_lt_of_mem hi
      have h2 := T.size_eq t
      omega)
    clear hA hG
    have HF := Lib.hid (show Below w.heap.size w ((w.alloc (.cells #[.slice ga g.length gc] 49)).alloc (tmCells t.head a t.args.length c)) from ((Below.refl _ w).alloc (Nat.le_refl _) _).alloc (by simp) _)
    by_cases q1 : t.head < 0
    · have hd := Lib.hid (show fitsT g t = true from by rw [HE.out]; simp [q1])
      go_enter Try.func73, Try.ntmps73
      go_wp2
      go_ret
      exact ⟨by rw [hd.out]; rfl, HF.out⟩
    by_cases q2 : t.head < (g.length : Int)
    · obtain ⟨b, o, x, rfl, hbn, hs, hxw, hc0, hc1, hc2, hc3⟩ := HG.out.elem (i := t.head.toNat) (by omega)
      have hk0 : (0 : Int) ≤ t.head := by omega
      have HAR := Lib.hid (show armOk g t.head t.args.length = decide ((t.args.length : Int) = x.ar) from by unfold armOk; rw [hs]; simp; omega)
      have hbw : b < w.heap.size := by omega
      obtain ⟨W1, hW1⟩ : ∃ W1, (w.alloc (.cells #[.slice (some ⟨b, o, none⟩) g.length gc] 49)).alloc (tmCells t.head a t.args.length c) = W1 := ⟨_, rfl⟩
      have hF1 : Below w.heap.size w W1 := by rw [← hW1]; exact HF.out
      have HF1 := Lib.hid hF1
      have hs1 : W1.heap.size = w.heap.size + 1 + 1 := by rw [← hW1]; simp
      have hg0 : W1.cell? ⟨w.heap.size, 0, none⟩ = some (.slice (some ⟨b, o, none⟩) g.length gc) := by rw [← hW1]; simp [go_sem]
      have ht0 : W1.cell? ⟨w.heap.size + 1, 0, none⟩ = some (.int .i64 t.head) := by rw [← hW1]; simp [go_sem]
      have ht1 : W1.cell? ⟨w.heap.size + 1, 1, none⟩ = some (.slice a t.args.length c) := by rw [← hW1]; simp [go_sem]
      have hx1 : W1.cell? ⟨b, o + t.head.toNat * 4 + 1, none⟩ = some (.int .i64 x.ar) := (hF1.cell (p := ⟨b, _, none⟩) hbw).trans hc1
      have HS1 := Lib.hid hs1
      by_cases q3 : (t.args.length : Int) = x.ar
      · have hd := Lib.hid (show fitsT g t = !(t.args.any fun s => !fitsT g s) from by
          rw [HE.out, HAR.out, fitsL_all]; simp [q1, q3, List.any_eq_not_all_not])
        have CT := Lib.hid (fun (n : Nat) => containsT_any (fun s => !fitsT g s) 75 #[.pointer (some ⟨w.heap.size, 0, none⟩)] (enters_of Try.func75 (by kernel_rfl) rfl) t.args n₀ a c
          (W1.drewN n) (show n₀ ≤ W1.heap.size from by omega) (HA.out.below ((HF1.out.trans ((bl_drew _ _).mono HF1.out.size)).mono hn))
          (fun W s a' c' hs hW hwf' hA' => by
            have hz1 := HS1.out
            have hz2 : W1.heap.size ≤ W.heap.size := hW.size
            have hW' : Below W1.heap.size W1 W := (bl_drew _ _).trans hW
            exact fits1_any g _ gc s a' c' w.heap.size W (by omega) ((hW'.cell (p := ⟨w.heap.size, 0, none⟩) (by show w.heap.size < W1.heap.size; omega)).trans hg0)
              (fun X hX => IH.out s (HS.out s hs) n₀ _ gc a' c' X (by have := hX.size; omega)
                (HG.out.below ((HF1.out.trans (hW'.mono HF1.out.size)).mono hn |>.trans (hX.mono (by omega)))) hwf' (hA'.below (hX.mono (by omega))))))
        clear hs hxw hs1 hF1
        go_enter Try.func73, Try.ntmps73
        go_wp2
        clear hW1
        go_quiet (fail)
        go_wp2_with (first | (go_at_call 51; refine (CT.out _).mono ?_; rintro e w3 ⟨rfl, hb3⟩))
        have HB3 := Lib.hid ((HF1.out.trans ((bl_drew _ _).mono HF1.out.size)).trans (hb3.mono HF1.out.size))
        clear hb3
        go_ret
        exact ⟨by rw [hd.out]; rfl, HB3.out⟩
      · have hd := Lib.hid (show fitsT g t = false from by
          rw [HE.out, HAR.out]; simp [q1, q3])
        have q4 : ((t.args.length : Int) != x.ar) = true := by simpa using q3
        clear hs hxw hs1 hF1
        go_enter Try.func73, Try.ntmps73
        go_wp2
        clear hW1
        go_quiet (fail)
        go_wp2
        go_ret
        exact ⟨by rw [hd.out]; rfl, HF1.out.trans ((bl_drew _ _).mono HF1.out.size)⟩
    · have hd := Lib.hid (show fitsT g t = false from by
        rw [HE.out]; unfold armOk
        rw [List.getElem?_eq_none (by omega)]; simp [q1])
      obtain ⟨W1, hW1⟩ : ∃ W1, (w.alloc (.cells #[.slice ga g.length gc] 49)).alloc (tmCells t.head a t.args.length c) = W1 := ⟨_, rfl⟩
      have HF1 := Lib.hid (show Below w.heap.size w W1 from by rw [← hW1]; exact HF.out)
      have hg0 : W1.cell? ⟨w.heap.size, 0, none⟩ = some (.slice ga g.length gc) := by rw [← hW1]; simp [go_sem]
      have ht0 : W1.cell? ⟨w.heap.size + 1, 0, none⟩ = some (.int .i64 t.head) := by rw [← hW1]; simp [go_sem]
      have ht1 : W1.cell? ⟨w.heap.size + 1, 1, none⟩ = some (.slice a t.args.length c) := by rw [← hW1]; simp [go_sem]
      go_enter Try.func73, Try.ntmps73
      go_wp2
      clear hW1
      go_quiet (fail)
      go_wp2
      go_ret
      exact ⟨by rw [hd.out]; rfl, HF1.out.trans ((bl_drew _ _).mono HF1.out.size)⟩
/-- The closure of anyPredicate. -/
theorem pred1_any (g : Sg) (ga : Option Addr) (gc : Nat) (t : T) (a : Option Addr) (c : Nat) (B n₀ : Nat) (W : World) (hB : B < W.heap.size) (hn : n₀ ≤ W.heap.size) (hcell : W.cell? ⟨B, 0, none⟩ = some (.slice ga g.length gc)) (hG : IsSg n₀ W g ga gc) (hft : fitsT g t = true)
    (hF : ∀ X, Below W.heap.size W X → Calls Try.prog 74 #[.slice ga g.length gc, .slice a t.args.length c] X fun e w' => e = .returned (.bool (predL g t.args)) ∧ Below X.heap.size X w') :
    Calls Try.prog 76 #[tm t.head a t.args.length c, .pointer (some ⟨B, 0, none⟩)] W fun e w' => e = .returned (.bool (predT g t)) ∧ Below W.heap.size W w' := by
  have HF := Lib.hid hF
  have HE := Lib.hid (predT_eq g t)
  have hlg : g.length ≤ gc ∧ gc ≤ maxLen := ⟨hG.1, hG.2.1⟩
  unfold maxLen at hlg
  obtain ⟨hl3, hl4⟩ := hlg
  have hne : B ≠ W.heap.size := by omega
  by_cases q1 : t.head < 0
  · have hd := Lib.hid (show predT g t = predL g t.args from by rw [HE.out]; unfold predS; simp [show ¬ 0 ≤ t.head from by omega])
    clear hF hG hft
    go_enter Try.func76, Try.ntmps76
    go_wp2_with fail
    refine (HF.out _ ((Below.refl _ _).alloc (Nat.le_refl _) _)).mono ?_
    rintro e w2 ⟨rfl, hb2⟩
    have HB2 := Lib.hid (((Below.refl _ W).alloc (Nat.le_refl _) _).trans (hb2.mono (by simp)))
    clear hb2
    go_wp2
    go_ret
    exact ⟨by rw [hd.out]; first | rfl | simp, HB2.out⟩
  · have hk : t.head.toNat < g.length := by
      have : fitsT g t = true := hft
      rw [fitsT_eq] at this
      simp [q1, armOk] at this
      obtain ⟨h1, _⟩ := this
      split at h1
      · rename_i x hx; exact (List.getElem?_eq_some_iff.1 hx).1
      · simp at h1
    have hk2 : t.head < (g.length : Int) := by omega
    have hk0 : 0 ≤ t.head := by omega
    obtain ⟨b, o, x, rfl, hbn, hs, hxw, hc0, hc1, hc2, hc3⟩ := hG.elem (i := t.head.toNat) hk
    have hbw : b < W.heap.size := by omega
    have hps : predS g t.head = x.tr := by unfold predS; rw [hs]; simp [hk0]
    clear hF hG hft hxw hs
    cases htr : x.tr with
    | true =>
      have hd := Lib.hid (show predT g t = true from by rw [HE.out, hps, htr]; rfl)
      rw [htr] at hc3
      clear hps htr
      go_enter Try.func76, Try.ntmps76
      go_wp2
      go_ret
      exact ⟨by rw [hd.out]; rfl, ((Below.refl _ W).alloc (Nat.le_refl _) _)⟩
    | false =>
      have hd := Lib.hid (show predT g t = predL g t.args from by rw [HE.out, hps, htr]; rfl)
      rw [htr] at hc3
      clear hps htr
      go_enter Try.func76, Try.ntmps76
      go_wp2_with fail
      refine (HF.out _ ((Below.refl _ _).alloc (Nat.le_refl _) _)).mono ?_
      rintro e w2 ⟨rfl, hb2⟩
      have HB2 := Lib.hid (((Below.refl _ W).alloc (Nat.le_refl _) _).trans (hb2.mono (by simp)))
      clear hb2
      go_wp2
      go_ret
      exact ⟨by rw [hd.out]; first | rfl | simp, HB2.out⟩
set_option maxRecDepth 100000 in
set_option maxHeartbeats 2000000 in
theorem predicate_any (g : Sg) : ∀ (N : Nat) (ts : List T), T.sizes ts ≤ N → (∀ t ∈ ts, fitsT g t = true ∧ bad (T.subs 1 t) = false) → ∀ (n₀ : Nat) (ga : Option Addr) (gc : Nat) (a : Option Addr) (c : Nat) (w : World), n₀ ≤ w.heap.size → IsSg n₀ w g ga gc → IsArgs n₀ w ts a c →
    Calls Try.prog 74 #[.slice ga g.length gc, .slice a ts.length c] w fun e w' => e = .returned (.bool (predL g ts)) ∧ Below w.heap.size w w' := by
  intro N
  induction N with
  | zero =>
    intro ts ht hf n₀ ga gc a c w hn hG hA
    have h0 : ts = [] := by cases ts with | nil => rfl | cons t ts => have := T.size_pos t; simp [T.sizes] at ht; omega
    subst h0
    have hlc : (([] : List T)).length ≤ c ∧ c ≤ maxLen := ⟨hA.1, hA.2.1⟩
    have HA := Lib.hid hA
    have HF := Lib.hid (show Below w.heap.size w (w.alloc (.cells #[.slice ga g.length gc] 49)) from (Below.refl _ w).alloc (Nat.le_refl _) _)
    have CT := Lib.hid (containsT_any (fun s => predT g s) 76 #[.pointer (some ⟨w.heap.size, 0, none⟩)] (enters_of Try.func76 (by kernel_rfl) rfl) [] n₀ a c
      (w.alloc (.cells #[.slice ga g.length gc] 49)) (Nat.le_trans hn HF.out.size) (HA.out.below (HF.out.mono hn)) (fun W s a' c' hs => absurd hs (by simp)))
    clear hA hG
    go_enter Try.func74, Try.ntmps74
    go_wp2_with (first | (go_at_call 51; refine CT.out.mono ?_; rintro e w3 ⟨rfl, hb3⟩))
    have HB3 := Lib.hid (HF.out.trans (hb3.mono HF.out.size))
    clear hb3
    go_ret
    exact ⟨by rw [predL_any]; rfl, HB3.out⟩
  | succ N ih =>
    intro ts ht hf n₀ ga gc a c w hn hG hA
    have IH := Lib.hid ih
    have HFT := Lib.hid hf
    clear ih hf
    have HA := Lib.hid hA
    have HG := Lib.hid hG
    have HS := Lib.hid (show ∀ s ∈ ts, T.sizes s.args ≤ N from fun s hs => by
      obtain ⟨i, hi⟩ := List.getElem?_of_mem hs
      have h1 := T.size_lt_of_mem hi
      have h2 := T.size_eq s
      omega)
    have HF := Lib.hid (show Below w.heap.size w (w.alloc (.cells #[.slice ga g.length gc] 49)) from (Below.refl _ w).alloc (Nat.le_refl _) _)
    have hlc : ts.length ≤ c ∧ c ≤ maxLen := ⟨hA.1, hA.2.1⟩
    have CT := Lib.hid (containsT_any (fun s => predT g s) 76 #[.pointer (some ⟨w.heap.size, 0, none⟩)] (enters_of Try.func76 (by kernel_rfl) rfl) ts n₀ a c
      (w.alloc (.cells #[.slice ga g.length gc] 49)) (Nat.le_trans hn HF.out.size) (HA.out.below (HF.out.mono hn))
      (fun W s a' c' hs hW hwf' hA' => by
        have hz1 : (w.alloc (.cells #[.slice ga g.length gc] 49)).heap.size = w.heap.size + 1 := by simp
        have hz2 := hW.size
        have hGW := HG.out.below ((HF.out.trans (hW.mono HF.out.size)).mono hn)
        refine pred1_any g ga gc s a' c' w.heap.size n₀ W (by omega) (by omega) ((hW.cell (p := ⟨w.heap.size, 0, none⟩) (by simp)).trans (by simp [go_sem])) hGW (HFT.out s hs).1 (fun X hX => ?_)
        by_cases hne : s.args = []
        · rw [hne]
          have hA0 : IsArgs n₀ X [] a' c' := by rw [hne] at hA'; exact hA'.below (hX.mono (by omega))
          have := IH.out [] (by simp [T.sizes]) (by simp) n₀ ga gc a' c' X (by have := hX.size; omega) (hGW.below (hX.mono (by omega))) hA0
          exact this
        · refine IH.out s.args (HS.out s hs) (fun u hu => ?_) n₀ ga gc a' c' X (by have := hX.size; omega) (hGW.below (hX.mono (by omega))) (hA'.below (hX.mono (by omega)))
          obtain ⟨k, hk⟩ := List.getElem?_of_mem hu
          have h1 := HFT.out s hs
          refine ⟨?_, good_arg h1.2 hk⟩
          have h2 := h1.1
          rw [fitsT_eq] at h2
          simp only [Bool.or_eq_true, decide_eq_true_eq, Bool.and_eq_true, fitsL_all, List.all_eq_true] at h2
          rcases h2 with h | h
          · exact absurd (good_var h1.2 h) hne
          · exact h.2 u hu))
    clear hA hG
    go_enter Try.func74, Try.ntmps74
    go_wp2_with (first | (go_at_call 51; refine CT.out.mono ?_; rintro e w3 ⟨rfl, hb3⟩))
    have HB3 := Lib.hid (HF.out.trans (hb3.mono HF.out.size))
    clear hb3
    go_ret
    exact ⟨by rw [predL_any]; rfl, HB3.out⟩
end Go.Proofs.Ytbdabdjpgmnejaa

/- Contract of weigh's Term. -/
namespace Go.Proofs.Ytbdabdjpgmnejaa
set_option linter.unusedVariables false
set_option linter.unusedSimpArgs false
open Go.RowKit
theorem fits_args {g : Sg} {t : T} (hf : fitsT g t = true) (hb : bad (T.subs 1 t) = false) : ∀ s ∈ t.args, fitsT g s = true ∧ bad (T.subs 1 s) = false := by
  intro s hs
  obtain ⟨k, hk⟩ := List.getElem?_of_mem hs
  refine ⟨?_, good_arg hb hk⟩
  rw [fitsT_eq] at hf
  simp only [Bool.or_eq_true, decide_eq_true_eq, Bool.and_eq_true, fitsL_all, List.all_eq_true] at hf
  rcases hf with h | h
  · rw [good_var hb h] at hs; simp at hs
  · exact h.2 s hs
set_option maxRecDepth 100000 in
set_option maxHeartbeats 2000000 in
theorem sgTerm_any (g : Sg) (t : T) (hsz : t.size ≤ 1000000000000) (n₀ : Nat) (ga : Option Addr) (gc : Nat) (a : Option Addr) (c : Nat) (w : World) (hn : n₀ ≤ w.heap.size) (hG : IsSg n₀ w g ga gc) (hwf : (Lit.int .i64 t.head).wf = true) (hA : IsArgs n₀ w t.args a c) :
    Calls Try.prog 70 #[.slice ga g.length gc, tm t.head a t.args.length c] w fun e w' => e = .returned (.int .i64 (errT g t)) ∧ Below w.heap.size w w' := by
  obtain ⟨W1, hW1⟩ : ∃ W1, w.alloc (tmCells t.head a t.args.length c) = W1 := ⟨_, rfl⟩
  have hF1 : Below w.heap.size w W1 := by rw [← hW1]; exact (Below.refl _ w).alloc (Nat.le_refl _) _
  have HF1 := Lib.hid hF1
  have LT := Lib.hid (show Later (fun X => Vc w.heap.size t.head a t.args.length c X) W1 from by rw [← hW1]; exact later_var w _ _ _ _)
  have CC := Lib.hid (fun (W : World) (hW : Below w.heap.size w W) => sgCheck_any g n₀ ga gc W (Nat.le_trans hn hW.size) (hG.below (hW.mono hn)))
  have CK := Lib.hid (fun (W : World) (hW : Below w.heap.size w W) => check_any t hsz n₀ a c W (Nat.le_trans hn hW.size) hwf (hA.below (hW.mono hn)))
  have CF := Lib.hid (fun (W : World) (hW : Below w.heap.size w W) => fits_any g t.size t (Nat.le_refl _) n₀ ga gc a c W (Nat.le_trans hn hW.size) (hG.below (hW.mono hn)) hwf (hA.below (hW.mono hn)))
  have CP := Lib.hid (fun (hall : ∀ s ∈ t.args, fitsT g s = true ∧ bad (T.subs 1 s) = false) (W : World) (hW : Below w.heap.size w W) => predicate_any g (T.sizes t.args) t.args (Nat.le_refl _) hall n₀ ga gc a c W (Nat.le_trans hn hW.size) (hG.below (hW.mono hn)) (hA.below (hW.mono hn)))
  clear hF1 hG hA
  go_enter Try.func70, Try.ntmps70
  go_wp2_with fail
  refine (CC.out _ HF1.out).mono ?_
  rintro e w2 ⟨rfl, hb2⟩
  have hB2 : Below w.heap.size w w2 := HF1.out.trans (hb2.mono HF1.out.size)
  have LT2 := Lib.hid (LT.out.mv hb2)
  have HB2 := Lib.hid hB2
  clear hb2 hB2 LT hW1
  cases hr : rightG g with
  | false =>
    have h1 : errG g = 1 := by unfold errG; rw [hr]; rfl
    have HE := Lib.hid (show errT g t = 1 from by unfold errT; rw [hr]; rfl)
    rw [h1]
    clear h1 hr
    go_wp2
    go_ret
    exact ⟨by rw [HE.out]; rfl, HB2.out⟩
  | true =>
    have h1 : errG g = 0 := by unfold errG; rw [hr]; rfl
    have HR := Lib.hid hr
    rw [h1]
    clear h1 hr
    have hv := LT2.out.now
    obtain ⟨hv0, hv1⟩ := hv
    go_wp2_with fail
    refine (CK.out _ HB2.out).mono ?_
    rintro e w3 ⟨rfl, hb3⟩
    have HB3 := Lib.hid (HB2.out.trans (hb3.mono HB2.out.size))
    have LT3 := Lib.hid (LT2.out.mv hb3)
    clear hb3 LT2 hv0 hv1
    by_cases hc : t.check = 0
    · have HC := Lib.hid hc
      rw [hc]
      have hv := LT3.out.now
      obtain ⟨hv0, hv1⟩ := hv
      clear hc
      go_wp2_with fail
      refine (CF.out _ HB3.out).mono ?_
      rintro e w4 ⟨rfl, hb4⟩
      have HB4 := Lib.hid (HB3.out.trans (hb4.mono HB3.out.size))
      have LT4 := Lib.hid (LT3.out.mv hb4)
      clear hb4 LT3 hv0 hv1
      cases hf : fitsT g t with
      | false =>
        have HE := Lib.hid (show errT g t = 1 from by unfold errT; rw [HR.out, HC.out, hf]; rfl)
        clear hf
        go_wp2
        go_ret
        exact ⟨by rw [HE.out]; rfl, HB4.out⟩
      | true =>
        have hall := fits_args hf (check_ok HC.out).2.2
        have CQ := Lib.hid (CP.out hall w4 HB4.out)
        have HF := Lib.hid hf
        clear hf hall
        have hv := LT4.out.now
        obtain ⟨hv0, hv1⟩ := hv
        go_wp2_with fail
        refine CQ.out.mono ?_
        rintro e w5 ⟨rfl, hb5⟩
        have HB5 := Lib.hid (HB4.out.trans (hb5.mono HB4.out.size))
        clear hb5 LT4 hv0 hv1
        cases hp : predL g t.args with
        | false =>
          have HE := Lib.hid (show errT g t = 0 from by unfold errT; rw [HR.out, HC.out, HF.out, hp]; rfl)
          clear hp
          go_wp2
          go_ret
          exact ⟨by rw [HE.out]; rfl, HB5.out⟩
        | true =>
          have HE := Lib.hid (show errT g t = 10 from by unfold errT; rw [HR.out, HC.out, HF.out, hp]; rfl)
          clear hp
          go_wp2
          go_ret
          exact ⟨by rw [HE.out]; rfl, HB5.out⟩
    · have HE := Lib.hid (show errT g t = t.check from by unfold errT; rw [HR.out]; simp [hc])
      obtain ⟨k, hk⟩ : ∃ k, t.check = k := ⟨_, rfl⟩
      have hk0 : (k != 0) = true := by rw [← hk]; simpa using hc
      rw [hk]
      have HK := Lib.hid hk
      clear hc hk
      go_wp2
      go_ret
      exact ⟨by rw [HE.out, HK.out]; rfl, HB3.out⟩
end Go.Proofs.Ytbdabdjpgmnejaa

/- RCp0: joined of RCp0, RPt0. -/
/- Copies: what they are, a step. -/
namespace Go.Proofs.Ytbdabdjpgmnejaa
set_option linter.unusedVariables false
set_option linter.unusedSimpArgs false
open Go.RowKit
theorem ownsRow_later {w w' : World} {base : Nat} {e : TypeId} {size : Nat} {v : Value} {n : Nat} {xs : List Value} (h : w.ownsRow base e size v n xs) (hb : Below w.heap.size w w') : w'.ownsRow base e size v n xs :=
  h.kept (row := none) ⟨hb.os, hb.tape, hb.output, hb.size, fun k hk _ => hb.block k hk⟩ (by cases hv : v.ownBlock <;> simp)
theorem heap_setCell_same {w : World} {b o : Nat} {c : Array Value} {t : TypeId} {fr : Nat × Nat} (h : w.heap[b]? = some (.cells c t fr)) (u : Value) : (w.setCell ⟨b, o, none⟩ u).heap[b]? = some (.cells (c.setIfInBounds o u) t fr) := by
  unfold World.setCell
  show (w.heap.modify b _)[b]? = _
  rw [Array.getElem?_modify, if_pos rfl, h]
  rfl
end Go.Proofs.Ytbdabdjpgmnejaa
/- What the reference's put answers, a step. -/
namespace Go.Proofs.Ytbdabdjpgmnejaa
set_option linter.unusedVariables false
set_option linter.unusedSimpArgs false
open Go.RowKit
end Go.Proofs.Ytbdabdjpgmnejaa

/- Mem: plain lemmas on worlds, rows and terms in memory whose blocks meet a condition. -/
namespace Go.Proofs.Ytbdabdjpgmnejaa
set_option linter.unusedVariables false
set_option linter.unusedSimpArgs false
open Go.RowKit Go.Maps
namespace Mm
theorem ownsMap_exact {P : Program} {k : TypeId} {R : Value → Option (DataW Value × List MemPlace)} {w : World} {b n : Nat} {D : DataW Value} (h : w.ownsMap P k R b n D) : w.ownsMap P k R b (Maps.size D) D := by
  have := h.size_le
  obtain ⟨es, clock, hb, F, hs, rfl⟩ := h
  exact ⟨es, clock, hb, F, by simp [Maps.size, length_sorted], rfl⟩
def held (v : Value) : Option (DataW Value × List MemPlace) := some (.held v, [])
def wfi (v : Int) : Prop := -9223372036854775808 ≤ v ∧ v ≤ 9223372036854775807
theorem wfi.wf {v : Int} (h : wfi v) : (Lit.int .i64 v).wf = true := WalkArith.wf_i64 h
theorem rowBlock {w : World} {base : Nat} {e : TypeId} {size : Nat} {v : Value} {k : Nat} {xs : List Value} (h : w.ownsRow base e size v k xs) {b : Nat} (hb : v.ownBlock = some b) : base ≤ b ∧ b < w.heap.size ∧ ∃ cur, w.heap[b]? = some (.cells cur e (0, 0)) := by
  have hlt := h.lt b hb
  rcases h.2 with ⟨rfl, _⟩ | ⟨g, cap, cur, rfl, hg, hh, _⟩
  · cases hb
  · simp only [Value.ownBlock, Option.some.injEq] at hb
    subst hb
    exact ⟨hlt.1, hlt.2, cur, hh⟩
theorem ownsRow_kept {w w' : World} {base : Nat} {e : TypeId} {size : Nat} {v : Value} {k : Nat} {xs : List Value} (h : w.ownsRow base e size v k xs) (hb : ∀ b, v.ownBlock = some b → w'.heap[b]? = w.heap[b]?) : w'.ownsRow base e size v k xs := by
  obtain ⟨h1, h2⟩ := h
  refine ⟨h1, ?_⟩
  rcases h2 with h2 | ⟨g, cap, cur, rfl, p1, p2, p3⟩
  · exact .inl h2
  · exact .inr ⟨g, cap, cur, rfl, p1, (hb g rfl).trans p2, p3⟩
end Mm
theorem IsRowp.at {ok : Nat → Prop} {w : World} {ts : List T} {b o : Nat} (h : IsRowp ok w ts b o) {i : Nat} {t : T} (hi : ts[i]? = some t) : IsTp ok w t b (o + i * 2) := by
  induction ts generalizing o i with
  | nil => simp at hi
  | cons s ts ih =>
    simp only [IsRowp] at h
    cases i with
    | zero => simp at hi; subst hi; exact h.1
    | succ i =>
      have := ih h.2 (i := i) (by simpa using hi)
      rw [show o + (i + 1) * 2 = o + 2 + i * 2 from by omega]; exact this
theorem IsArgsp.elem {ok : Nat → Prop} {w : World} {ts : List T} {a : Option Addr} {c : Nat} (h : IsArgsp ok w ts a c) {i : Nat} (hi : i < ts.length) :
    ∃ (b o : Nat) (t : T) (a' : Option Addr) (c' : Nat), a = some ⟨b, o, none⟩ ∧ ok b ∧ ts[i]? = some t ∧ (Lit.int .i64 t.head).wf = true ∧ w.cell? ⟨b, o + i * 2, none⟩ = some (.int .i64 t.head) ∧
      w.cell? ⟨b, o + i * 2 + 1, none⟩ = some (.slice a' t.args.length c') ∧ IsArgsp ok w t.args a' c' := by
  obtain ⟨_, _, h3⟩ := h
  rcases h3 with rfl | ⟨b, o, rfl, h4, h5⟩
  · simp at hi
  · have ht := h5.at (List.getElem?_eq_getElem hi)
    obtain ⟨p0, p1, a', c', p2, p3⟩ := isTp_iff.1 ht
    exact ⟨b, o, _, a', c', rfl, h4, List.getElem?_eq_getElem hi, p0, p1, p2, p3⟩
end Go.Proofs.Ytbdabdjpgmnejaa

/- Heads of a term, maps of counts, and the stack: what names no function (split off Hd). -/
namespace Go.Proofs.Ytbdabdjpgmnejaa
set_option linter.unusedVariables false
set_option linter.unusedSimpArgs false
open Go.RowKit Go.Maps
mutual
def T.hds : T → List Int
  | .node h ts => h :: T.hdsL ts
def T.hdsL : List T → List Int
  | [] => []
  | t :: ts => t.hds ++ T.hdsL ts
end
def hwf (v : Int) : Prop := -9223372036854775808 ≤ v ∧ v ≤ 9223372036854775807
theorem hwf.wf {v : Int} (h : hwf v) : (Lit.int .i64 v).wf = true := WalkArith.wf_i64 h
/-! ### The stack -/
abbrev Stk := List (List T × Option Addr × Nat)
def hall (S : Stk) : List Int := (S.map fun e => T.hdsL e.1).flatten
section
variable {n₀ : Nat} {w : World} {M Bl base : Nat} {st : Value} {S : Stk} {L : List Int} {wr w' : World}
end
end Go.Proofs.Ytbdabdjpgmnejaa

/- Sums over maps, weights: what names no function (split off Wg). -/
namespace Go.Proofs.Ytbdabdjpgmnejaa
set_option linter.unusedVariables false
set_option linter.unusedSimpArgs false
open Go.RowKit Go.Maps
theorem errT_ok {g : Sg} {t : T} (h : errT g t = 0) : rightG g = true ∧ t.check = 0 ∧ fitsT g t = true ∧ predL g t.args = false := by
  unfold errT at h
  by_cases h1 : rightG g = true
  · rw [if_pos h1] at h
    by_cases h2 : t.check = 0
    · rw [if_pos h2] at h
      by_cases h3 : fitsT g t = true
      · rw [if_pos h3] at h
        by_cases h4 : predL g t.args = true
        · rw [if_pos h4] at h; cases h
        · exact ⟨h1, h2, h3, by simpa using h4⟩
      · rw [if_neg h3] at h; cases h
    · rw [if_neg h2] at h; exact absurd h h2
  · rw [if_neg h1] at h; cases h
end Go.Proofs.Ytbdabdjpgmnejaa

/- Knuth and Bendix's order in plain words. -/
namespace Go.Proofs.Ytbdabdjpgmnejaa
set_option linter.unusedVariables false
set_option linter.unusedSimpArgs false
open Go.RowKit
mutual
def T.same : T → T → Bool
  | .node h ts, .node k us => decide (h = k) && T.sameL ts us
def T.sameL : List T → List T → Bool
  | [], [] => true
  | t :: ts, u :: us => T.same t u && T.sameL ts us
  | [], _ :: _ => false
  | _ :: _, [] => false
end
mutual
theorem T.same_iff : (a b : T) → (T.same a b = true ↔ a = b)
  | .node h ts, .node k us => by
    have := T.sameL_iff ts us
    simp only [T.same, Bool.and_eq_true, decide_eq_true_eq, this, T.node.injEq]
theorem T.sameL_iff : (a b : List T) → (T.sameL a b = true ↔ a = b)
  | [], [] => by simp [T.sameL]
  | t :: ts, u :: us => by
    have h1 := T.same_iff t u
    have h2 := T.sameL_iff ts us
    simp only [T.sameL, Bool.and_eq_true, h1, h2, List.cons.injEq]
  | [], _ :: _ => by simp [T.sameL]
  | _ :: _, [] => by simp [T.sameL]
end
/-- Has a each variable at least as often as b? -/
def oftB (a b : T) : Bool := b.hds.all fun h => !decide (h < 0) || decide (b.hds.count h ≤ a.hds.count h)
mutual
def gtK (g : Sg) : T → T → Bool
  | .node h ts, b => oftB (.node h ts) b && (if wtT g (.node h ts) = wtT g b then !decide (h < 0) && (!decide (b.head < 0) && (if h = b.head then gtL g ts b.args else decide (b.head < h))) else decide (wtT g b < wtT g (.node h ts)))
def gtL (g : Sg) : List T → List T → Bool
  | t :: ts, u :: us => if T.same t u then gtL g ts us else gtK g t u
  | _, _ => false
end
/-! ### Terms without variables -/
/-! ### Parts -/
/-! ### How two stand -/
def stand (g : Sg) (a b : T) : Int := if T.same a b then 0 else if gtK g a b then 1 else if gtK g b a then -1 else 2
end Go.Proofs.Ytbdabdjpgmnejaa

/- Rows of terms compared as multisets, in plain words. -/
namespace Go.Proofs.Ytbdabdjpgmnejaa
set_option linter.unusedVariables false
set_option linter.unusedSimpArgs false
open Go.RowKit
instance instDecT : DecidableEq T := fun a b => decidable_of_iff _ (T.same_iff a b)
end Go.Proofs.Ytbdabdjpgmnejaa

/- Kbo's withoutCommon: two rows merged, what both have left out. -/
namespace Go.Proofs.Ytbdabdjpgmnejaa
set_option linter.unusedVariables false
set_option linter.unusedSimpArgs false
open Go.RowKit
theorem RowVals.append {ok : Nat → Prop} {w : World} {us : List T} {ys : List Value} (h2 : RowVals ok w us ys) : ∀ {ts : List T} {xs : List Value}, RowVals ok w ts xs → RowVals ok w (ts ++ us) (xs ++ ys)
  | [], [], _ => h2
  | _ :: _, _ :: _ :: _, ⟨p1, p2, p3, p4⟩ => ⟨p1, p2, p3, RowVals.append h2 p4⟩
  | [], _ :: _, h => h.elim
  | _ :: _, [], h => h.elim
  | _ :: _, [_], h => h.elim
/-- A row of terms of one's own. -/
def OA (n₁ : Nat) (v : Value) (P : List T) (W : World) : Prop := ∃ xs, W.ownsRow n₁ 28 2 v P.length xs ∧ RowVals (· < n₁) W P xs
theorem OA.nil (n₁ : Nat) (W : World) : OA n₁ (.slice none 0 0) [] W := ⟨[], ⟨by simp, .inl ⟨rfl, rfl⟩⟩, trivial⟩
theorem OA.kept {n₁ : Nat} {v : Value} {P : List T} {W W' : World} (h : OA n₁ v P W) (hb : Below n₁ W W') (hk : ∀ g, v.ownBlock = some g → W'.heap[g]? = W.heap[g]?) : OA n₁ v P W' := by
  obtain ⟨xs, h1, h2⟩ := h
  exact ⟨xs, Mm.ownsRow_kept h1 hk, h2.keep (fun b hb' => hb.block b hb') (fun _ x => x)⟩
theorem OA.block {n₁ : Nat} {v : Value} {P : List T} {W : World} (h : OA n₁ v P W) {g : Nat} (hg : v.ownBlock = some g) : n₁ ≤ g ∧ g < W.heap.size := by
  obtain ⟨xs, h1, h2⟩ := h
  obtain ⟨a, b, _⟩ := Mm.rowBlock h1 hg
  exact ⟨a, b⟩
theorem OA.args {n₁ : Nat} {v : Value} {P : List T} {W : World} (h : OA n₁ v P W) (hn : n₁ ≤ W.heap.size) : ∃ a c, v = .slice a P.length c ∧ IsArgs W.heap.size W P a c := by
  have hbl := fun g (hg : v.ownBlock = some g) => h.block hg
  obtain ⟨xs, h1, h2⟩ := h
  obtain ⟨a, c, e, hA⟩ := argsp_of_owns (ok' := (· < W.heap.size)) h1 h2 (fun b hb => Nat.lt_of_lt_of_le hb hn) (fun g hg => (hbl g hg).2)
  exact ⟨a, c, e, isArgsp_lt.1 hA⟩
theorem OA.later {n₁ : Nat} {v : Value} {P : List T} {W W' : World} (h : OA n₁ v P W) (hn : n₁ ≤ W.heap.size) (hb : Below W.heap.size W W') : OA n₁ v P W' := h.kept (hb.mono hn) (fun g hg => hb.block g (h.block hg).2)
/-- What is appended: terms whose cells lie at an address. -/
def Src (n₁ : Nat) (w : World) (ts : List T) (a : Option Addr) (c : Nat) : Prop :=
  (a = none → c = 0 ∧ ts = []) ∧ ∃ news, RowVals (· < n₁) w ts news ∧ (∀ u ∈ news, u.oneCell' = true) ∧ ∀ ad, a = some ad → ∀ j u, news[j]? = some u → w.cell? (ad.add j) = some u
theorem Src.of_args {n₁ : Nat} {w : World} {ts : List T} {a : Option Addr} {c : Nat} (hA : IsArgs n₁ w ts a c) (hnil : a = none → c = 0) : Src n₁ w ts a c := by
  refine ⟨fun h => ⟨hnil h, ?_⟩, ?_⟩
  · rcases hA.2.2 with h' | ⟨b, o, h', _⟩
    · exact h'
    · rw [h] at h'; cases h'
  · rcases hA.2.2 with rfl | ⟨b, o, rfl, hb, hr⟩
    · exact ⟨[], trivial, by simp, by simp⟩
    · obtain ⟨xs, h1, h2, h3⟩ := rowVals_of ts o ((isRowp_lt ts).2 hr)
      exact ⟨xs, h1, h3, fun ad e j u hj => by cases e; rw [addr_add]; exact h2 j u hj⟩
theorem Src.of_one {n₁ : Nat} {w : World} {x : T} {e : Option Addr} {f : Nat} (hw : (Lit.int .i64 x.head).wf = true) (hA : IsArgs n₁ w x.args e f) (b : Nat) (h0 : w.cell? ⟨b, 0, none⟩ = some (.int .i64 x.head)) (h1 : w.cell? ⟨b, 1, none⟩ = some (.slice e x.args.length f)) : Src n₁ w [x] (some ⟨b, 0, none⟩) 1 := by
  refine ⟨(fun h => by cases h), [.int .i64 x.head, .slice e x.args.length f], ⟨hw, rfl, ⟨e, f, rfl, isArgsp_lt.2 hA⟩, trivial⟩, ?_, fun ad e' j u hj => ?_⟩
  · intro u hu; simp at hu; rcases hu with rfl | rfl <;> rfl
  · cases e'
    rw [addr_add, Nat.zero_add]
    match j, hj with
    | 0, hj => simp at hj; subst hj; exact h0
    | 1, hj => simp at hj; subst hj; exact h1
    | j + 2, hj => simp at hj
/-- append(v, ts...), where v is a row of one's own. -/
theorem wpList_append_ts {w : World} {ops : Array Oper} {rest : List Oper} {o : Oper} {a : Act} {Q : Exit → Act → World → Prop} (hgd : o.guard = none) (s x : Operand)
    (ho : o.op = .call { callee := .builtin .append, args := #[s, x], argTypes := #[26, 26] }) (n₁ : Nat) (v : Value) (P : List T) (hs : a.eval s = v) (hO : OA n₁ v P w) (hn : n₁ ≤ w.heap.size)
    (ts : List T) (a' : Option Addr) (c' : Nat) (hx : a.eval x = .slice a' ts.length c') (hS : Src n₁ w ts a' c') (hl : P.length + ts.length ≤ 10000000)
    (h : ∀ v' w', OA n₁ v' (P ++ ts) w' → w.grownBy w' v.ownBlock → (v'.ownBlock = v.ownBlock ∨ v'.ownBlock = some w.heap.size) → wpList Try.prog ops Q rest (a.put o.dst v') w') : wpList Try.prog ops Q (o :: rest) a w := by
  obtain ⟨i0, hi, hz0, hz1, hz2⟩ := info_parts infoTerm
  obtain ⟨xs, hown, hrv⟩ := hO
  obtain ⟨hnone, news, hnv, h1, hcl⟩ := hS
  cases a' with
  | none =>
    obtain ⟨rfl, rfl⟩ := hnone rfl
    refine wpList_append_own_none hgd s x 26 ho n₁ 28 i0 2 Try.underlying26 hi v P.length xs hs hown hx ?_
    exact h v w ⟨xs, by simpa using hown, by simpa using hrv⟩ ⟨rfl, rfl, rfl, Nat.le_refl _, fun _ _ _ => rfl⟩ (.inl rfl)
  | some ad =>
    have hnl : news.length = ts.length * 2 := hnv.length
    obtain ⟨v', w', hr, h2, h3, _, h5⟩ := run_append_own_at (P := Try.prog) w n₁ 26 o.type 28 i0 (.agg #[.int .i64 0, .slice none 0 0]) 2 32 Try.underlying26 hi hz0 hz1 hz2 rfl (by decide) v P.length xs hown ad ts.length c' news hnl (hcl ad rfl) h1 (by unfold maxLen; omega) (by omega) hn
    refine wpList_plain hgd fun K hK => ?_
    unfold Oper.wp execOp
    simp only [ho, resolve, invoke, builtin, Sem.run_bind, Sem.run_pure, Result.andThen_ok, List.map_toArray, List.map_cons, List.map_nil, hs, hx, hr]
    refine hK _ _ (h v' w' ⟨xs ++ news, by simpa using h2, ?_⟩ h3 h5)
    have hrow := hrv
    have hb : ∀ b, b < n₁ → w'.heap[b]? = w.heap[b]? := fun b hb => h3.block b (by omega) (fun e => by
      have := Mm.rowBlock hown e.symm
      omega)
    exact RowVals.append (hnv.keep hb (fun _ x => x)) (hrv.keep hb (fun _ x => x))
/-! ### Counts -/
def sub (a b : List T) (z : T) : Nat := a.count z - b.count z
section
variable {A0 B0 X Y P Q : List T} {x y : T}
end
section
variable {A0 B0 X Y P Q : List T} {n₁ : Nat} {w wr w3 w' : World} {av bv ov pv : Value} {x y : T}
end
end Go.Proofs.Ytbdabdjpgmnejaa

/- Rows of terms, and sides of literals, as multisets. -/
namespace Go.Proofs.Ytbdabdjpgmnejaa
set_option linter.unusedVariables false
set_option linter.unusedSimpArgs false
open Go.RowKit
/-! ### The sides of a literal -/
def rowL (n : Bool) (l r : T) : List T := if n then [l, l, r, r] else [l, r]
def sidesT (l r l' r' : T) : Prop := (l = l' ∧ r = r') ∨ (l = r' ∧ r = l')
end Go.Proofs.Ytbdabdjpgmnejaa

/- Contract of the reference's Var. -/
namespace Go.Proofs.Ytbdabdjpgmnejaa
set_option linter.unusedVariables false
set_option linter.unusedSimpArgs false
open Go.RowKit
/-- The reference's Var, of any number. -/
theorem refVar_any (v : Int) (w : World) (h1 : -9223372036854775808 ≤ v) (h2 : v ≤ 9223372036854775807) :
    Calls Try.prog 20 #[.int .i64 v] w fun e w' => e = .returned (tm (-1 - v) none 0 0) ∧ Below w.heap.size w w' := by
  go_enter Try.func20, Try.ntmps20
  go_wp2
  exact bodyPost_ret (v := tm (-1 - v) none 0 0) (by simp [results, Try.results20, go_sem]) rfl ⟨rfl, ((Below.refl _ _).alloc (Nat.le_refl _) _)⟩
end Go.Proofs.Ytbdabdjpgmnejaa

/- Substitutions as lists, what they put for variables, and what it means that one lies in memory. -/
namespace Go.Proofs.Ytbdabdjpgmnejaa
set_option linter.unusedVariables false
set_option linter.unusedSimpArgs false
open Go.RowKit
abbrev Sb := List (Int × T)
def vt (v : Int) : T := .node (-1 - v) []
def ofS : Sb → Int → T
  | [], v => vt v
  | (x, t) :: s, v => if x = v then t else ofS s v
mutual
def T.sub (f : Int → T) : T → T
  | .node h ts => if h < 0 then f (-1 - h) else .node h (T.subl f ts)
def T.subl (f : Int → T) : List T → List T
  | [] => []
  | t :: ts => t.sub f :: T.subl f ts
end
theorem T.subl_map (f : Int → T) (ts : List T) : T.subl f ts = ts.map (T.sub f) := by
  induction ts with
  | nil => rfl
  | cons t ts ih => simp [T.subl, ih]
theorem T.sub_eq (f : Int → T) (t : T) : t.sub f = if t.head < 0 then f (-1 - t.head) else .node t.head (t.args.map (T.sub f)) := by
  cases t; rw [T.sub, T.subl_map]; rfl
theorem T.sub_neg {f : Int → T} {t : T} (h : t.head < 0) : t.sub f = f (-1 - t.head) := by rw [T.sub_eq, if_pos h]
theorem T.sub_pos {f : Int → T} {t : T} (h : ¬ t.head < 0) : t.sub f = .node t.head (t.args.map (T.sub f)) := by rw [T.sub_eq, if_neg h]
/-! ### A list of bindings in memory -/
end Go.Proofs.Ytbdabdjpgmnejaa
