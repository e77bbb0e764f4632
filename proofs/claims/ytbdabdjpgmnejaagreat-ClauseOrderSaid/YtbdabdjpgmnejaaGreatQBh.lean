/- QBh: joined of SgB, SgC, RCp0, Mem. -/
import Derived.Test.YtbdabdjpgmnejaaGreatQBg
import Derived.Lib.QuietBelow
import Derived.Deep.QuietTactic
import Derived.BigQuiet
import Derived.WalkSmall
import Derived.Test.YtbdabdjpgmnejaaGreatQBf
import Derived.Deep.AppendLies
import Derived.Deep.RegionLaw
import Derived.Maps.OwnSet
import Derived.Deep.OwnRows
import Derived.IntWalk
/- Contracts of weigh's fits, anyPredicate and Term. -/
namespace Go.Proofs.YtbdabdjpgmnejaaGreat
set_option linter.unusedVariables false
set_option linter.unusedSimpArgs false
open Go.RowKit

theorem bl_drew (W : World) (n : Nat) : Below W.heap.size W (W.drewN n) := ⟨rfl, rfl, rfl, Nat.le_refl _, fun _ _ => rfl⟩

/-- What is asked of a predicate on terms. -/
def PredT (f : Nat) (lb : Array Value) (p : T → Bool) (ts : List T) (n₀ : Nat) (w : World) : Prop :=
  ∀ (W : World) (t : T) (a : Option Addr) (c : Nat), t ∈ ts → Below w.heap.size w W → (Lit.int .i64 t.head).wf = true → IsArgs n₀ W t.args a c →
    Calls Tryz.prog f (#[tm t.head a t.args.length c] ++ lb) W fun e w' => e = .returned (.bool (p t)) ∧ Below W.heap.size W w'
def IdxT (p : T → Bool) (ts : List T) (w : World) (i : Value) (wr : World) : Prop := ∃ k : Nat, k ≤ ts.length ∧ i = .int .i64 k ∧ ts.any p = (ts.drop k).any p ∧ Below w.heap.size w wr

set_option maxRecDepth 100000 in
set_option maxHeartbeats 2000000 in
theorem indexT_any (p : T → Bool) (f : Nat) (lb : Array Value) (eg : ∀ args w, (callFunc f args).run Tryz.prog w = .ok (.enter f args) w) (ts : List T) (n₀ : Nat) (a : Option Addr) (c : Nat) (w : World) (hn : n₀ ≤ w.heap.size) (hA : IsArgs n₀ w ts a c)
    (hp : PredT f lb p ts n₀ w) :
    Calls Tryz.prog 61 #[.slice a ts.length c, .func (.func f) #[] lb] w fun e w' => ∃ j : Int, e = .returned (.int .i64 j) ∧ decide (0 ≤ j) = ts.any p ∧ Below w.heap.size w w' := by
  have hlc : ts.length ≤ c ∧ c ≤ maxLen := ⟨hA.1, hA.2.1⟩
  unfold maxLen at hlc
  obtain ⟨hl1, hl2⟩ := hlc
  have HA := Lib.hid hA
  have HP := Lib.hid hp
  clear hA hp
  go_enter Tryz.func61, Tryz.ntmps61
  go_wp2
  go_loopw [8] (fun i wr => IdxT p ts w i wr) (fun i _ => ts.length - (intOf i).toNat)
  case atStart => exact ⟨0, Nat.zero_le _, rfl, by simp, Below.refl _ _⟩
  case round =>
    obtain ⟨k, hk, rfl, hbd, hB⟩ := hrel
    have HBD := Lib.hid hbd
    have HB := Lib.hid hB
    have hbz := hB.size
    clear hbd hB
    by_cases hlt : k < ts.length
    · obtain ⟨b, o, s, a', c', rfl, hbn, hs, hswf, hc1, hc2, hA'⟩ := (HA.out.below (HB.out.mono hn)).elem (i := k) hlt
      have hk0 : (0 : Int) ≤ (k : Int) := Int.natCast_nonneg _
      have hk1 : (k : Int) < (ts.length : Int) := by omega
      have hbw : b < wr.heap.size := by omega
      have hcall := HP.out wr s a' c' (List.mem_of_getElem? hs) HB.out hswf hA'
      have hst : (ts.drop k).any p = (p s || (ts.drop (k + 1)).any p) := by
        obtain ⟨hkl, hke⟩ := List.getElem?_eq_some_iff.1 hs
        rw [List.drop_eq_getElem_cons hkl, hke]; rfl
      have HSTEP := Lib.hid hst
      clear hs hswf hA' hst
      cases hd : p s with
      | false =>
        rw [hd] at hcall
        have H0 := Lib.hid (show (ts.drop k).any p = (ts.drop (k + 1)).any p from by rw [HSTEP.out, hd]; rfl)
        clear hd
        go_wp2_with (go_at_fn f; refine hcall.mono ?_; rintro e w2 ⟨rfl, hb2⟩)
        have HB2 := Lib.hid (HB.out.trans (hb2.mono hbz))
        clear hb2
        go_roundw
        case rel => exact ⟨k + 1, by omega, by go_num, HBD.out.trans H0.out, HB2.out⟩
        case measure => simp [intOf]; omega
      | true =>
        rw [hd] at hcall
        have H0 := Lib.hid (show ts.any p = true from by rw [HBD.out, HSTEP.out, hd]; rfl)
        clear hd
        go_wp2_with (go_at_fn f; refine hcall.mono ?_; rintro e w2 ⟨rfl, hb2⟩)
        have HB2 := Lib.hid (HB.out.trans (hb2.mono hbz))
        clear hb2
        go_ret
        exact ⟨(k : Int), rfl, by rw [H0.out]; simp, HB2.out⟩
    · obtain rfl : k = ts.length := by omega
      have H0 := Lib.hid (show ts.any p = false from by rw [HBD.out, List.drop_of_length_le (Nat.le_refl _)]; rfl)
      go_wp2
      go_ret
      exact ⟨-1, rfl, by rw [H0.out]; rfl, HB.out⟩

theorem containsT_any (p : T → Bool) (f : Nat) (lb : Array Value) (eg : ∀ args w, (callFunc f args).run Tryz.prog w = .ok (.enter f args) w) (ts : List T) (n₀ : Nat) (a : Option Addr) (c : Nat) (w : World) (hn : n₀ ≤ w.heap.size) (hA : IsArgs n₀ w ts a c)
    (hp : PredT f lb p ts n₀ w) :
    Calls Tryz.prog 28 #[.slice a ts.length c, .func (.func f) #[] lb] w fun e w' => e = .returned (.bool (ts.any p)) ∧ Below w.heap.size w w' := by
  have CI := Lib.hid (indexT_any p f lb eg ts n₀ a c w hn hA hp)
  clear hA hp eg
  go_enter Tryz.func28, Tryz.ntmps28
  go_wp2_with fail
  refine CI.out.mono ?_
  rintro e w2 ⟨j, rfl, hj, hb⟩
  have HJ := Lib.hid hj
  have HB := Lib.hid hb
  clear hj hb
  go_wp2
  go_ret
  exact ⟨by rw [← HJ.out]; rfl, HB.out⟩

/-- The closure of fits. -/
theorem fits1_any (g : Sg) (ga : Option Addr) (gc : Nat) (t : T) (a : Option Addr) (c : Nat) (B : Nat) (W : World) (hB : B < W.heap.size) (hcell : W.cell? ⟨B, 0, none⟩ = some (.slice ga g.length gc))
    (hF : ∀ X, Below W.heap.size W X → Calls Tryz.prog 140 #[.slice ga g.length gc, tm t.head a t.args.length c] X fun e w' => e = .returned (.bool (fitsT g t)) ∧ Below X.heap.size X w') :
    Calls Tryz.prog 152 #[tm t.head a t.args.length c, .pointer (some ⟨B, 0, none⟩)] W fun e w' => e = .returned (.bool (!fitsT g t)) ∧ Below W.heap.size W w' := by
  have HF := Lib.hid hF
  clear hF
  have hne : B ≠ W.heap.size := by omega
  go_enter Tryz.func152, Tryz.ntmps152
  go_wp2_with fail
  refine (HF.out _ ((Below.refl _ _).alloc (Nat.le_refl _) _)).mono ?_
  rintro e w2 ⟨rfl, hb2⟩
  have HB2 := Lib.hid (((Below.refl _ W).alloc (Nat.le_refl _) _).trans (hb2.mono (by simp)))
  clear hb2
  go_wp2
  go_ret
  exact ⟨rfl, HB2.out⟩

set_option maxRecDepth 100000 in
set_option maxHeartbeats 2000000 in
theorem fits_any (g : Sg) : ∀ (N : Nat) (t : T), t.size ≤ N → ∀ (n₀ : Nat) (ga : Option Addr) (gc : Nat) (a : Option Addr) (c : Nat) (w : World), n₀ ≤ w.heap.size → IsSg n₀ w g ga gc → (Lit.int .i64 t.head).wf = true → IsArgs n₀ w t.args a c →
    Calls Tryz.prog 140 #[.slice ga g.length gc, tm t.head a t.args.length c] w fun e w' => e = .returned (.bool (fitsT g t)) ∧ Below w.heap.size w w' := by
  intro N
  induction N with
  | zero => intro t ht; have := T.size_pos t; omega
  | succ N ih =>
    intro t ht n₀ ga gc a c w hn hG hwf hA
    have IH := Lib.hid ih
    clear ih
    have HE := Lib.hid (fitsT_eq g t)
    have hlc : t.args.length ≤ c ∧ c ≤ maxLen := ⟨hA.1, hA.2.1⟩
    have hlg : g.length ≤ gc ∧ gc ≤ maxLen := ⟨hG.1, hG.2.1⟩
    unfold maxLen at hlc hlg
    obtain ⟨hl1, hl2⟩ := hlc
    obtain ⟨hl3, hl4⟩ := hlg
    have HA := Lib.hid hA
    have HG := Lib.hid hG
    have HS := Lib.hid (show ∀ s ∈ t.args, s.size ≤ N from fun s hs => by
      obtain ⟨i, hi⟩ := List.getElem?_of_mem hs
      have h1 := T.size_lt_of_mem hi
      have h2 := T.size_eq t
      omega)
    clear hA hG
    have HF := Lib.hid (show Below w.heap.size w ((w.alloc (.cells #[.slice ga g.length gc] 22)).alloc (tmCells t.head a t.args.length c)) from ((Below.refl _ w).alloc (Nat.le_refl _) _).alloc (by simp) _)
    by_cases q1 : t.head < 0
    · have hd := Lib.hid (show fitsT g t = true from by rw [HE.out]; simp [q1])
      go_enter Tryz.func140, Tryz.ntmps140
      go_wp2
      go_ret
      exact ⟨by rw [hd.out]; rfl, HF.out⟩
    by_cases q2 : t.head < (g.length : Int)
    · obtain ⟨b, o, x, rfl, hbn, hs, hxw, hc0, hc1, hc2, hc3⟩ := HG.out.elem (i := t.head.toNat) (by omega)
      have hk0 : (0 : Int) ≤ t.head := by omega
      have HAR := Lib.hid (show armOk g t.head t.args.length = decide ((t.args.length : Int) = x.ar) from by unfold armOk; rw [hs]; simp; omega)
      have hbw : b < w.heap.size := by omega
      obtain ⟨W1, hW1⟩ : ∃ W1, (w.alloc (.cells #[.slice (some ⟨b, o, none⟩) g.length gc] 22)).alloc (tmCells t.head a t.args.length c) = W1 := ⟨_, rfl⟩
      have hF1 : Below w.heap.size w W1 := by rw [← hW1]; exact HF.out
      have HF1 := Lib.hid hF1
      have hs1 : W1.heap.size = w.heap.size + 1 + 1 := by rw [← hW1]; simp
      have hg0 : W1.cell? ⟨w.heap.size, 0, none⟩ = some (.slice (some ⟨b, o, none⟩) g.length gc) := by rw [← hW1]; simp [go_sem]
      have ht0 : W1.cell? ⟨w.heap.size + 1, 0, none⟩ = some (.int .i64 t.head) := by rw [← hW1]; simp [go_sem]
      have ht1 : W1.cell? ⟨w.heap.size + 1, 1, none⟩ = some (.slice a t.args.length c) := by rw [← hW1]; simp [go_sem]
      have hx1 : W1.cell? ⟨b, o + t.head.toNat * 4 + 1, none⟩ = some (.int .i64 x.ar) := (hF1.cell (p := ⟨b, _, none⟩) hbw).trans hc1
      have HS1 := Lib.hid hs1
      by_cases q3 : (t.args.length : Int) = x.ar
      · have hd := Lib.hid (show fitsT g t = !(t.args.any fun s => !fitsT g s) from by
          rw [HE.out, HAR.out, fitsL_all]; simp [q1, q3, List.any_eq_not_all_not])
        have CT := Lib.hid (fun (n : Nat) => containsT_any (fun s => !fitsT g s) 152 #[.pointer (some ⟨w.heap.size, 0, none⟩)] (enters_of Tryz.func152 (by kernel_rfl) rfl) t.args n₀ a c
          (W1.drewN n) (show n₀ ≤ W1.heap.size from by omega) (HA.out.below ((HF1.out.trans ((bl_drew _ _).mono HF1.out.size)).mono hn))
          (fun W s a' c' hs hW hwf' hA' => by
            have hz1 := HS1.out
            have hz2 : W1.heap.size ≤ W.heap.size := hW.size
            have hW' : Below W1.heap.size W1 W := (bl_drew _ _).trans hW
            exact fits1_any g _ gc s a' c' w.heap.size W (by omega) ((hW'.cell (p := ⟨w.heap.size, 0, none⟩) (by show w.heap.size < W1.heap.size; omega)).trans hg0)
              (fun X hX => IH.out s (HS.out s hs) n₀ _ gc a' c' X (by have := hX.size; omega)
                (HG.out.below ((HF1.out.trans (hW'.mono HF1.out.size)).mono hn |>.trans (hX.mono (by omega)))) hwf' (hA'.below (hX.mono (by omega))))))
        clear hs hxw hs1 hF1
        go_enter Tryz.func140, Tryz.ntmps140
        go_wp2
        clear hW1
        go_quiet (fail)
        go_wp2_with (first | (go_at_call 28; refine (CT.out _).mono ?_; rintro e w3 ⟨rfl, hb3⟩))
        have HB3 := Lib.hid ((HF1.out.trans ((bl_drew _ _).mono HF1.out.size)).trans (hb3.mono HF1.out.size))
        clear hb3
        go_ret
        exact ⟨by rw [hd.out]; rfl, HB3.out⟩
      · have hd := Lib.hid (show fitsT g t = false from by
          rw [HE.out, HAR.out]; simp [q1, q3])
        have q4 : ((t.args.length : Int) != x.ar) = true := by simpa using q3
        clear hs hxw hs1 hF1
        go_enter Tryz.func140, Tryz.ntmps140
        go_wp2
        clear hW1
        go_quiet (fail)
        go_wp2
        go_ret
        exact ⟨by rw [hd.out]; rfl, HF1.out.trans ((bl_drew _ _).mono HF1.out.size)⟩
    · have hd := Lib.hid (show fitsT g t = false from by
        rw [HE.out]; unfold armOk
        rw [List.getElem?_eq_none (by omega)]; simp [q1])
      obtain ⟨W1, hW1⟩ : ∃ W1, (w.alloc (.cells #[.slice ga g.length gc] 22)).alloc (tmCells t.head a t.args.length c) = W1 := ⟨_, rfl⟩
      have HF1 := Lib.hid (show Below w.heap.size w W1 from by rw [← hW1]; exact HF.out)
      have hg0 : W1.cell? ⟨w.heap.size, 0, none⟩ = some (.slice ga g.length gc) := by rw [← hW1]; simp [go_sem]
      have ht0 : W1.cell? ⟨w.heap.size + 1, 0, none⟩ = some (.int .i64 t.head) := by rw [← hW1]; simp [go_sem]
      have ht1 : W1.cell? ⟨w.heap.size + 1, 1, none⟩ = some (.slice a t.args.length c) := by rw [← hW1]; simp [go_sem]
      go_enter Tryz.func140, Tryz.ntmps140
      go_wp2
      clear hW1
      go_quiet (fail)
      go_wp2
      go_ret
      exact ⟨by rw [hd.out]; rfl, HF1.out.trans ((bl_drew _ _).mono HF1.out.size)⟩

/-- The closure of anyPredicate. -/
theorem pred1_any (g : Sg) (ga : Option Addr) (gc : Nat) (t : T) (a : Option Addr) (c : Nat) (B n₀ : Nat) (W : World) (hB : B < W.heap.size) (hn : n₀ ≤ W.heap.size) (hcell : W.cell? ⟨B, 0, none⟩ = some (.slice ga g.length gc)) (hG : IsSg n₀ W g ga gc) (hft : fitsT g t = true)
    (hF : ∀ X, Below W.heap.size W X → Calls Tryz.prog 141 #[.slice ga g.length gc, .slice a t.args.length c] X fun e w' => e = .returned (.bool (predL g t.args)) ∧ Below X.heap.size X w') :
    Calls Tryz.prog 153 #[tm t.head a t.args.length c, .pointer (some ⟨B, 0, none⟩)] W fun e w' => e = .returned (.bool (predT g t)) ∧ Below W.heap.size W w' := by
  have HF := Lib.hid hF
  have HE := Lib.hid (predT_eq g t)
  have hlg : g.length ≤ gc ∧ gc ≤ maxLen := ⟨hG.1, hG.2.1⟩
  unfold maxLen at hlg
  obtain ⟨hl3, hl4⟩ := hlg
  have hne : B ≠ W.heap.size := by omega
  by_cases q1 : t.head < 0
  · have hd := Lib.hid (show predT g t = predL g t.args from by rw [HE.out]; unfold predS; simp [show ¬ 0 ≤ t.head from by omega])
    clear hF hG hft
    go_enter Tryz.func153, Tryz.ntmps153
    go_wp2_with fail
    refine (HF.out _ ((Below.refl _ _).alloc (Nat.le_refl _) _)).mono ?_
    rintro e w2 ⟨rfl, hb2⟩
    have HB2 := Lib.hid (((Below.refl _ W).alloc (Nat.le_refl _) _).trans (hb2.mono (by simp)))
    clear hb2
    go_wp2
    go_ret
    exact ⟨by rw [hd.out]; first | rfl | simp, HB2.out⟩
  · have hk : t.head.toNat < g.length := by
      have : fitsT g t = true := hft
      rw [fitsT_eq] at this
      simp [q1, armOk] at this
      obtain ⟨h1, _⟩ := this
      split at h1
      · rename_i x hx; exact (List.getElem?_eq_some_iff.1 hx).1
      · simp at h1
    have hk2 : t.head < (g.length : Int) := by omega
    have hk0 : 0 ≤ t.head := by omega
    obtain ⟨b, o, x, rfl, hbn, hs, hxw, hc0, hc1, hc2, hc3⟩ := hG.elem (i := t.head.toNat) hk
    have hbw : b < W.heap.size := by omega
    have hps : predS g t.head = x.tr := by unfold predS; rw [hs]; simp [hk0]
    clear hF hG hft hxw hs
    cases htr : x.tr with
    | true =>
      have hd := Lib.hid (show predT g t = true from by rw [HE.out, hps, htr]; rfl)
      rw [htr] at hc3
      clear hps htr
      go_enter Tryz.func153, Tryz.ntmps153
      go_wp2
      go_ret
      exact ⟨by rw [hd.out]; rfl, ((Below.refl _ W).alloc (Nat.le_refl _) _)⟩
    | false =>
      have hd := Lib.hid (show predT g t = predL g t.args from by rw [HE.out, hps, htr]; rfl)
      rw [htr] at hc3
      clear hps htr
      go_enter Tryz.func153, Tryz.ntmps153
      go_wp2_with fail
      refine (HF.out _ ((Below.refl _ _).alloc (Nat.le_refl _) _)).mono ?_
      rintro e w2 ⟨rfl, hb2⟩
      have HB2 := Lib.hid (((Below.refl _ W).alloc (Nat.le_refl _) _).trans (hb2.mono (by simp)))
      clear hb2
      go_wp2
      go_ret
      exact ⟨by rw [hd.out]; first | rfl | simp, HB2.out⟩

set_option maxRecDepth 100000 in
set_option maxHeartbeats 2000000 in
theorem predicate_any (g : Sg) : ∀ (N : Nat) (ts : List T), T.sizes ts ≤ N → (∀ t ∈ ts, fitsT g t = true ∧ bad (T.subs 1 t) = false) → ∀ (n₀ : Nat) (ga : Option Addr) (gc : Nat) (a : Option Addr) (c : Nat) (w : World), n₀ ≤ w.heap.size → IsSg n₀ w g ga gc → IsArgs n₀ w ts a c →
    Calls Tryz.prog 141 #[.slice ga g.length gc, .slice a ts.length c] w fun e w' => e = .returned (.bool (predL g ts)) ∧ Below w.heap.size w w' := by
  intro N
  induction N with
  | zero =>
    intro ts ht hf n₀ ga gc a c w hn hG hA
    have h0 : ts = [] := by cases ts with | nil => rfl | cons t ts => have := T.size_pos t; simp [T.sizes] at ht; omega
    subst h0
    have hlc : (([] : List T)).length ≤ c ∧ c ≤ maxLen := ⟨hA.1, hA.2.1⟩
    have HA := Lib.hid hA
    have HF := Lib.hid (show Below w.heap.size w (w.alloc (.cells #[.slice ga g.length gc] 22)) from (Below.refl _ w).alloc (Nat.le_refl _) _)
    have CT := Lib.hid (containsT_any (fun s => predT g s) 153 #[.pointer (some ⟨w.heap.size, 0, none⟩)] (enters_of Tryz.func153 (by kernel_rfl) rfl) [] n₀ a c
      (w.alloc (.cells #[.slice ga g.length gc] 22)) (Nat.le_trans hn HF.out.size) (HA.out.below (HF.out.mono hn)) (fun W s a' c' hs => absurd hs (by simp)))
    clear hA hG
    go_enter Tryz.func141, Tryz.ntmps141
    go_wp2_with (first | (go_at_call 28; refine CT.out.mono ?_; rintro e w3 ⟨rfl, hb3⟩))
    have HB3 := Lib.hid (HF.out.trans (hb3.mono HF.out.size))
    clear hb3
    go_ret
    exact ⟨by rw [predL_any]; rfl, HB3.out⟩
  | succ N ih =>
    intro ts ht hf n₀ ga gc a c w hn hG hA
    have IH := Lib.hid ih
    have HFT := Lib.hid hf
    clear ih hf
    have HA := Lib.hid hA
    have HG := Lib.hid hG
    have HS := Lib.hid (show ∀ s ∈ ts, T.sizes s.args ≤ N from fun s hs => by
      obtain ⟨i, hi⟩ := List.getElem?_of_mem hs
      have h1 := T.size_lt_of_mem hi
      have h2 := T.size_eq s
      omega)
    have HF := Lib.hid (show Below w.heap.size w (w.alloc (.cells #[.slice ga g.length gc] 22)) from (Below.refl _ w).alloc (Nat.le_refl _) _)
    have hlc : ts.length ≤ c ∧ c ≤ maxLen := ⟨hA.1, hA.2.1⟩
    have CT := Lib.hid (containsT_any (fun s => predT g s) 153 #[.pointer (some ⟨w.heap.size, 0, none⟩)] (enters_of Tryz.func153 (by kernel_rfl) rfl) ts n₀ a c
      (w.alloc (.cells #[.slice ga g.length gc] 22)) (Nat.le_trans hn HF.out.size) (HA.out.below (HF.out.mono hn))
      (fun W s a' c' hs hW hwf' hA' => by
        have hz1 : (w.alloc (.cells #[.slice ga g.length gc] 22)).heap.size = w.heap.size + 1 := by simp
        have hz2 := hW.size
        have hGW := HG.out.below ((HF.out.trans (hW.mono HF.out.size)).mono hn)
        refine pred1_any g ga gc s a' c' w.heap.size n₀ W (by omega) (by omega) ((hW.cell (p := ⟨w.heap.size, 0, none⟩) (by simp)).trans (by simp [go_sem])) hGW (HFT.out s hs).1 (fun X hX => ?_)
        by_cases hne : s.args = []
        · rw [hne]
          have hA0 : IsArgs n₀ X [] a' c' := by rw [hne] at hA'; exact hA'.below (hX.mono (by omega))
          have := IH.out [] (by simp [T.sizes]) (by simp) n₀ ga gc a' c' X (by have := hX.size; omega) (hGW.below (hX.mono (by omega))) hA0
          exact this
        · refine IH.out s.args (HS.out s hs) (fun u hu => ?_) n₀ ga gc a' c' X (by have := hX.size; omega) (hGW.below (hX.mono (by omega))) (hA'.below (hX.mono (by omega)))
          obtain ⟨k, hk⟩ := List.getElem?_of_mem hu
          have h1 := HFT.out s hs
          refine ⟨?_, good_arg h1.2 hk⟩
          have h2 := h1.1
          rw [fitsT_eq] at h2
          simp only [Bool.or_eq_true, decide_eq_true_eq, Bool.and_eq_true, fitsL_all, List.all_eq_true] at h2
          rcases h2 with h | h
          · exact absurd (good_var h1.2 h) hne
          · exact h.2 u hu))
    clear hA hG
    go_enter Tryz.func141, Tryz.ntmps141
    go_wp2_with (first | (go_at_call 28; refine CT.out.mono ?_; rintro e w3 ⟨rfl, hb3⟩))
    have HB3 := Lib.hid (HF.out.trans (hb3.mono HF.out.size))
    clear hb3
    go_ret
    exact ⟨by rw [predL_any]; rfl, HB3.out⟩

end Go.Proofs.YtbdabdjpgmnejaaGreat

/- Contract of weigh's Term. -/
namespace Go.Proofs.YtbdabdjpgmnejaaGreat
set_option linter.unusedVariables false
set_option linter.unusedSimpArgs false
open Go.RowKit

theorem fits_args {g : Sg} {t : T} (hf : fitsT g t = true) (hb : bad (T.subs 1 t) = false) : ∀ s ∈ t.args, fitsT g s = true ∧ bad (T.subs 1 s) = false := by
  intro s hs
  obtain ⟨k, hk⟩ := List.getElem?_of_mem hs
  refine ⟨?_, good_arg hb hk⟩
  rw [fitsT_eq] at hf
  simp only [Bool.or_eq_true, decide_eq_true_eq, Bool.and_eq_true, fitsL_all, List.all_eq_true] at hf
  rcases hf with h | h
  · rw [good_var hb h] at hs; simp at hs
  · exact h.2 s hs

set_option maxRecDepth 100000 in
set_option maxHeartbeats 2000000 in
theorem sgTerm_any (g : Sg) (t : T) (hsz : t.size ≤ 1000000000000) (n₀ : Nat) (ga : Option Addr) (gc : Nat) (a : Option Addr) (c : Nat) (w : World) (hn : n₀ ≤ w.heap.size) (hG : IsSg n₀ w g ga gc) (hwf : (Lit.int .i64 t.head).wf = true) (hA : IsArgs n₀ w t.args a c) :
    Calls Tryz.prog 121 #[.slice ga g.length gc, tm t.head a t.args.length c] w fun e w' => e = .returned (.int .i64 (errT g t)) ∧ Below w.heap.size w w' := by
  obtain ⟨W1, hW1⟩ : ∃ W1, w.alloc (tmCells t.head a t.args.length c) = W1 := ⟨_, rfl⟩
  have hF1 : Below w.heap.size w W1 := by rw [← hW1]; exact (Below.refl _ w).alloc (Nat.le_refl _) _
  have HF1 := Lib.hid hF1
  have LT := Lib.hid (show Later (fun X => Vc w.heap.size t.head a t.args.length c X) W1 from by rw [← hW1]; exact later_var w _ _ _ _)
  have CC := Lib.hid (fun (W : World) (hW : Below w.heap.size w W) => sgCheck_any g n₀ ga gc W (Nat.le_trans hn hW.size) (hG.below (hW.mono hn)))
  have CK := Lib.hid (fun (W : World) (hW : Below w.heap.size w W) => check_any t hsz n₀ a c W (Nat.le_trans hn hW.size) hwf (hA.below (hW.mono hn)))
  have CF := Lib.hid (fun (W : World) (hW : Below w.heap.size w W) => fits_any g t.size t (Nat.le_refl _) n₀ ga gc a c W (Nat.le_trans hn hW.size) (hG.below (hW.mono hn)) hwf (hA.below (hW.mono hn)))
  have CP := Lib.hid (fun (hall : ∀ s ∈ t.args, fitsT g s = true ∧ bad (T.subs 1 s) = false) (W : World) (hW : Below w.heap.size w W) => predicate_any g (T.sizes t.args) t.args (Nat.le_refl _) hall n₀ ga gc a c W (Nat.le_trans hn hW.size) (hG.below (hW.mono hn)) (hA.below (hW.mono hn)))
  clear hF1 hG hA
  go_enter Tryz.func121, Tryz.ntmps121
  go_wp2_with fail
  refine (CC.out _ HF1.out).mono ?_
  rintro e w2 ⟨rfl, hb2⟩
  have hB2 : Below w.heap.size w w2 := HF1.out.trans (hb2.mono HF1.out.size)
  have LT2 := Lib.hid (LT.out.mv hb2)
  have HB2 := Lib.hid hB2
  clear hb2 hB2 LT hW1
  cases hr : rightG g with
  | false =>
    have h1 : errG g = 1 := by unfold errG; rw [hr]; rfl
    have HE := Lib.hid (show errT g t = 1 from by unfold errT; rw [hr]; rfl)
    rw [h1]
    clear h1 hr
    go_wp2
    go_ret
    exact ⟨by rw [HE.out]; rfl, HB2.out⟩
  | true =>
    have h1 : errG g = 0 := by unfold errG; rw [hr]; rfl
    have HR := Lib.hid hr
    rw [h1]
    clear h1 hr
    have hv := LT2.out.now
    obtain ⟨hv0, hv1⟩ := hv
    go_wp2_with fail
    refine (CK.out _ HB2.out).mono ?_
    rintro e w3 ⟨rfl, hb3⟩
    have HB3 := Lib.hid (HB2.out.trans (hb3.mono HB2.out.size))
    have LT3 := Lib.hid (LT2.out.mv hb3)
    clear hb3 LT2 hv0 hv1
    by_cases hc : t.check = 0
    · have HC := Lib.hid hc
      rw [hc]
      have hv := LT3.out.now
      obtain ⟨hv0, hv1⟩ := hv
      clear hc
      go_wp2_with fail
      refine (CF.out _ HB3.out).mono ?_
      rintro e w4 ⟨rfl, hb4⟩
      have HB4 := Lib.hid (HB3.out.trans (hb4.mono HB3.out.size))
      have LT4 := Lib.hid (LT3.out.mv hb4)
      clear hb4 LT3 hv0 hv1
      cases hf : fitsT g t with
      | false =>
        have HE := Lib.hid (show errT g t = 1 from by unfold errT; rw [HR.out, HC.out, hf]; rfl)
        clear hf
        go_wp2
        go_ret
        exact ⟨by rw [HE.out]; rfl, HB4.out⟩
      | true =>
        have hall := fits_args hf (check_ok HC.out).2.2
        have CQ := Lib.hid (CP.out hall w4 HB4.out)
        have HF := Lib.hid hf
        clear hf hall
        have hv := LT4.out.now
        obtain ⟨hv0, hv1⟩ := hv
        go_wp2_with fail
        refine CQ.out.mono ?_
        rintro e w5 ⟨rfl, hb5⟩
        have HB5 := Lib.hid (HB4.out.trans (hb5.mono HB4.out.size))
        clear hb5 LT4 hv0 hv1
        cases hp : predL g t.args with
        | false =>
          have HE := Lib.hid (show errT g t = 0 from by unfold errT; rw [HR.out, HC.out, HF.out, hp]; rfl)
          clear hp
          go_wp2
          go_ret
          exact ⟨by rw [HE.out]; rfl, HB5.out⟩
        | true =>
          have HE := Lib.hid (show errT g t = 10 from by unfold errT; rw [HR.out, HC.out, HF.out, hp]; rfl)
          clear hp
          go_wp2
          go_ret
          exact ⟨by rw [HE.out]; rfl, HB5.out⟩
    · have HE := Lib.hid (show errT g t = t.check from by unfold errT; rw [HR.out]; simp [hc])
      obtain ⟨k, hk⟩ : ∃ k, t.check = k := ⟨_, rfl⟩
      have hk0 : (k != 0) = true := by rw [← hk]; simpa using hc
      rw [hk]
      have HK := Lib.hid hk
      clear hc hk
      go_wp2
      go_ret
      exact ⟨by rw [HE.out, HK.out]; rfl, HB3.out⟩

end Go.Proofs.YtbdabdjpgmnejaaGreat

/- RCp0: joined of RCp0, RPt0. -/
/- Copies: what they are, a step. -/
namespace Go.Proofs.YtbdabdjpgmnejaaGreat
set_option linter.unusedVariables false
set_option linter.unusedSimpArgs false
open Go.RowKit

theorem ownsRow_later {w w' : World} {base : Nat} {e : TypeId} {size : Nat} {v : Value} {n : Nat} {xs : List Value} (h : w.ownsRow base e size v n xs) (hb : Below w.heap.size w w') : w'.ownsRow base e size v n xs :=
  h.kept (row := none) ⟨hb.os, hb.tape, hb.output, hb.size, fun k hk _ => hb.block k hk⟩ (by cases hv : v.ownBlock <;> simp)

/-- What a copy is: a term of the same form, all of whose blocks are new. -/
def CopyPost (t : T) (w : World) (e : Ending) (w' : World) : Prop :=
  ∃ a2 c2, e = .returned (tm t.head a2 t.args.length c2) ∧ IsArgsp (fun b => w.heap.size ≤ b ∧ b < w'.heap.size) w' t.args a2 c2 ∧ Below w.heap.size w w'

def okC (w : World) (v : Value) (wr : World) (b : Nat) : Prop := w.heap.size + 3 ≤ b ∧ b < wr.heap.size ∧ v.ownBlock ≠ some b
def CopyI (t : T) (w w3 : World) (i : Value) (wr : World) : Prop :=
  ∃ (k : Nat) (v : Value) (xs : List Value), k ≤ t.args.length ∧ i = .int .i64 k ∧ wr.heap[w.heap.size + 2]? = some (.cells #[.int .i64 t.head, v] 34 (0, 0)) ∧
    wr.ownsRow (w.heap.size + 3) 34 2 v k xs ∧ RowVals (okC w v wr) wr (t.args.take k) xs ∧ Below (w.heap.size + 2) w3 wr

theorem heap_setCell_same {w : World} {b o : Nat} {c : Array Value} {t : TypeId} {fr : Nat × Nat} (h : w.heap[b]? = some (.cells c t fr)) (u : Value) : (w.setCell ⟨b, o, none⟩ u).heap[b]? = some (.cells (c.setIfInBounds o u) t fr) := by
  unfold World.setCell
  show (w.heap.modify b _)[b]? = _
  rw [Array.getElem?_modify, if_pos rfl, h]
  rfl

theorem copy_step {t s : T} {w w3 wr w4 w5 : World} {k : Nat} {v : Value} {xs : List Value} {a2 : Option Addr} {c2 g5 cap5 : Nat} {ob : Obj} (hk : k < t.args.length) (hs : t.args[k]? = some s) (hsw : (Lit.int .i64 s.head).wf = true)
    (hout : wr.heap[w.heap.size + 2]? = some (.cells #[.int .i64 t.head, v] 34 (0, 0))) (hown : wr.ownsRow (w.heap.size + 3) 34 2 v k xs) (hrv : RowVals (okC w v wr) wr (t.args.take k) xs)
    (hB : Below (w.heap.size + 2) w3 wr) (hz : w.heap.size + 3 ≤ wr.heap.size) (hI4 : IsArgsp (fun b => wr.heap.size ≤ b ∧ b < w4.heap.size) w4 s.args a2 c2) (hB4 : Below wr.heap.size wr w4)
    (hown5 : w5.ownsRow (w.heap.size + 3) 34 2 (.slice (some ⟨g5, 0, none⟩) (k + 1) cap5) (k + 1) (xs ++ [.int .i64 s.head, .slice a2 s.args.length c2])) (hgrow5 : (w4.alloc ob).grownBy w5 v.ownBlock)
    (hat5 : v.ownBlock = some g5 ∨ g5 = w4.heap.size + 1) :
    CopyI t w w3 (.int .i64 ((k + 1 : Nat) : Int)) (w5.setCell ⟨w.heap.size + 2, 1, none⟩ (.slice (some ⟨g5, 0, none⟩) (k + 1) cap5)) := by
  have hz4 : wr.heap.size ≤ w4.heap.size := hB4.size
  have hz5 : w4.heap.size + 1 ≤ w5.heap.size := by have := hgrow5.size; simpa using this
  have hlt := hown.lt
  have hbk : ∀ b, b < w4.heap.size → v.ownBlock ≠ some b → b ≠ w.heap.size + 2 → (w5.setCell ⟨w.heap.size + 2, 1, none⟩ (.slice (some ⟨g5, 0, none⟩) (k + 1) cap5)).heap[b]? = w4.heap[b]? := fun b h1 h2 h3 =>
    (Below.heap_setCell _ _ _ _ h3).trans ((hgrow5.block b (by simp; omega) (fun e => h2 e.symm)).trans (Below.heap_alloc _ _ _ h1))
  have hg5 : ∀ b, b < w4.heap.size → v.ownBlock ≠ some b → g5 ≠ b := fun b h1 h2 e => by
    subst e
    rcases hat5 with h | h
    · exact h2 h
    · omega
  refine ⟨k + 1, _, _, by omega, rfl, ?_, ownsRow_setCell_below hown5 (by simp) _, ?_, ?_⟩
  · have h5 : w5.heap[w.heap.size + 2]? = some (.cells #[.int .i64 t.head, v] 34 (0, 0)) :=
      ((hgrow5.block _ (by simp; omega) (fun e => by have := hlt _ e.symm; omega)).trans ((Below.heap_alloc _ _ _ (by omega)).trans (hB4.block _ (by omega)))).trans hout
    rw [heap_setCell_same h5]
    rfl
  · rw [List.take_succ_eq_append_getElem hk, show t.args[k] = s from by have := List.getElem?_eq_getElem hk; rw [hs] at this; exact (Option.some.inj this).symm]
    refine RowVals.snoc hsw (hI4.keep (fun b hb => hbk b hb.2 (fun e => by have := hlt _ e; omega) (by omega)) (fun b hb => ⟨by omega, by show b < _; simp; omega, fun e => hg5 b hb.2 (fun e => by have := hlt _ e; omega) (by simpa [Value.ownBlock] using e)⟩))
      (hrv.keep (fun b hb => (hbk b (by have := hb.2.1; omega) hb.2.2 (by have := hb.1; omega)).trans (hB4.block b hb.2.1)) (fun b hb => ⟨hb.1, by show b < _; have := hb.2.1; simp; omega, fun e => hg5 b (by have := hb.2.1; omega) hb.2.2 (by simpa [Value.ownBlock] using e)⟩))
  · exact (hB.trans (((hB4.mono (by omega)).alloc (by omega) ob).grown hgrow5 (by simp; omega) (fun k hk => by have := hlt k hk; omega))).setCell (p := ⟨w.heap.size + 2, 1, none⟩) (by simp) _


end Go.Proofs.YtbdabdjpgmnejaaGreat

/- What the reference's put answers, a step. -/
namespace Go.Proofs.YtbdabdjpgmnejaaGreat
set_option linter.unusedVariables false
set_option linter.unusedSimpArgs false
open Go.RowKit

/-- What put answers: a term, whose blocks are old or new. -/
def RPutPost (x : T) (n₀ : Nat) (w : World) (e : Ending) (w' : World) : Prop :=
  ∃ a2 c2, e = .returned (tm x.head a2 x.args.length c2) ∧ (Lit.int .i64 x.head).wf = true ∧ IsArgsp (fun b => b < n₀ ∨ w.heap.size ≤ b ∧ b < w'.heap.size) w' x.args a2 c2 ∧ Below w.heap.size w w'
def okRP (n₀ : Nat) (w : World) (v : Value) (wr : World) (b : Nat) : Prop := b < n₀ ∨ (w.heap.size + 4 ≤ b ∧ b < wr.heap.size ∧ v.ownBlock ≠ some b)
def RPutI (h : Int) (ts : List T) (n₀ : Nat) (w w3 : World) (i : Value) (wr : World) : Prop :=
  ∃ (k : Nat) (v : Value) (xs : List Value), k ≤ ts.length ∧ i = .int .i64 k ∧ wr.heap[w.heap.size + 3]? = some (.cells #[.int .i64 h, v] 34 (0, 0)) ∧
    wr.ownsRow (w.heap.size + 4) 34 2 v k xs ∧ RowVals (okRP n₀ w v wr) wr (ts.take k) xs ∧ Below (w.heap.size + 3) w3 wr

theorem rput_step {h : Int} {ts : List T} {n₀ : Nat} {s : T} {w w3 wr w4 w5 : World} {k : Nat} {v : Value} {xs : List Value} {a2 : Option Addr} {c2 g5 cap5 : Nat} {ob : Obj} (hn : n₀ ≤ w.heap.size) (hs : ts[k]? = some s) (hsw : (Lit.int .i64 s.head).wf = true)
    (hout : wr.heap[w.heap.size + 3]? = some (.cells #[.int .i64 h, v] 34 (0, 0))) (hown : wr.ownsRow (w.heap.size + 4) 34 2 v k xs) (hrv : RowVals (okRP n₀ w v wr) wr (ts.take k) xs)
    (hB : Below (w.heap.size + 3) w3 wr) (hz : w.heap.size + 4 ≤ wr.heap.size) (hI4 : IsArgsp (fun b => b < n₀ ∨ wr.heap.size ≤ b ∧ b < w4.heap.size) w4 s.args a2 c2) (hB4 : Below wr.heap.size wr w4)
    (hown5 : w5.ownsRow (w.heap.size + 4) 34 2 (.slice (some ⟨g5, 0, none⟩) (k + 1) cap5) (k + 1) (xs ++ [.int .i64 s.head, .slice a2 s.args.length c2])) (hgrow5 : (w4.alloc ob).grownBy w5 v.ownBlock)
    (hat5 : v.ownBlock = some g5 ∨ g5 = w4.heap.size + 1) :
    RPutI h ts n₀ w w3 (.int .i64 ((k + 1 : Nat) : Int)) (w5.setCell ⟨w.heap.size + 3, 1, none⟩ (.slice (some ⟨g5, 0, none⟩) (k + 1) cap5)) := by
  obtain ⟨hk, hks⟩ := List.getElem?_eq_some_iff.1 hs
  have hz4 : wr.heap.size ≤ w4.heap.size := hB4.size
  have hz5 : w4.heap.size + 1 ≤ w5.heap.size := by have := hgrow5.size; simpa using this
  have hlt := hown.lt
  have hbk : ∀ b, b < w4.heap.size → v.ownBlock ≠ some b → b ≠ w.heap.size + 3 → (w5.setCell ⟨w.heap.size + 3, 1, none⟩ (.slice (some ⟨g5, 0, none⟩) (k + 1) cap5)).heap[b]? = w4.heap[b]? := fun b h1 h2 h3 =>
    (Below.heap_setCell _ _ _ _ h3).trans ((hgrow5.block b (by simp; omega) (fun e => h2 e.symm)).trans (Below.heap_alloc _ _ _ h1))
  have hg5 : ∀ b, b < w4.heap.size → v.ownBlock ≠ some b → g5 ≠ b := fun b h1 h2 e => by
    subst e
    rcases hat5 with h | h
    · exact h2 h
    · omega
  have hlow : ∀ b, b < n₀ → v.ownBlock ≠ some b := fun b hb e => by have := hlt _ e; omega
  refine ⟨k + 1, _, _, by omega, rfl, ?_, ownsRow_setCell_below hown5 (by simp) _, ?_, ?_⟩
  · have h5 : w5.heap[w.heap.size + 3]? = some (.cells #[.int .i64 h, v] 34 (0, 0)) :=
      ((hgrow5.block _ (by simp; omega) (fun e => by have := hlt _ e.symm; omega)).trans ((Below.heap_alloc _ _ _ (by omega)).trans (hB4.block _ (by omega)))).trans hout
    rw [heap_setCell_same h5]
    rfl
  · rw [List.take_succ_eq_append_getElem hk, hks]
    refine RowVals.snoc hsw (hI4.keep (fun b hb => ?_) (fun b hb => ?_)) (hrv.keep (fun b hb => ?_) (fun b hb => ?_))
    · rcases hb with hb | hb
      · exact hbk b (by omega) (hlow b hb) (by omega)
      · exact hbk b hb.2 (fun e => by have := hlt _ e; omega) (by omega)
    · rcases hb with hb | hb
      · exact .inl hb
      · exact .inr ⟨by omega, by show b < _; simp; omega, fun e => hg5 b hb.2 (fun e => by have := hlt _ e; omega) (by simpa [Value.ownBlock] using e)⟩
    · rcases hb with hb | hb
      · exact (hbk b (by omega) (hlow b hb) (by omega)).trans (hB4.block b (by omega))
      · exact (hbk b (by have := hb.2.1; omega) hb.2.2 (by have := hb.1; omega)).trans (hB4.block b hb.2.1)
    · rcases hb with hb | hb
      · exact .inl hb
      · exact .inr ⟨hb.1, by show b < _; have := hb.2.1; simp; omega, fun e => hg5 b (by have := hb.2.1; omega) hb.2.2 (by simpa [Value.ownBlock] using e)⟩
  · exact (hB.trans (((hB4.mono (by omega)).alloc (by omega) ob).grown hgrow5 (by simp; omega) (fun k hk => by have := hlt k hk; omega))).setCell (p := ⟨w.heap.size + 3, 1, none⟩) (by simp) _


end Go.Proofs.YtbdabdjpgmnejaaGreat

/- Mem: plain lemmas on worlds, rows and terms in memory whose blocks meet a condition. -/
namespace Go.Proofs.YtbdabdjpgmnejaaGreat
set_option linter.unusedVariables false
set_option linter.unusedSimpArgs false
open Go.RowKit Go.Maps

namespace Mm
theorem ownsMap_exact {P : Program} {k : TypeId} {R : Value → Option (DataW Value × List MemPlace)} {w : World} {b n : Nat} {D : DataW Value} (h : w.ownsMap P k R b n D) : w.ownsMap P k R b (Maps.size D) D := by
  have := h.size_le
  obtain ⟨es, clock, hb, F, hs, rfl⟩ := h
  exact ⟨es, clock, hb, F, by simp [Maps.size, length_sorted], rfl⟩
def held (v : Value) : Option (DataW Value × List MemPlace) := some (.held v, [])
def wfi (v : Int) : Prop := -9223372036854775808 ≤ v ∧ v ≤ 9223372036854775807
theorem wfi.wf {v : Int} (h : wfi v) : (Lit.int .i64 v).wf = true := WalkArith.wf_i64 h
theorem wfi_of {z : Int} (h : (Lit.int .i64 z).wf = true) : wfi z := by
  simp only [Lit.wf, Bool.and_eq_true, decide_eq_true_iff] at h
  have h1 : IntKind.i64.min = -9223372036854775808 := by decide
  have h2 : IntKind.i64.max = 9223372036854775807 := by decide
  unfold wfi
  omega
theorem cell_of_block {w w' : World} {a : Addr} (h : w'.heap[a.block]? = w.heap[a.block]?) : w'.cell? a = w.cell? a := by simp only [World.cell?, h]
theorem frozen_of_block {w w' : World} {a : Addr} (h : w'.heap[a.block]? = w.heap[a.block]?) : w'.frozen? a = w.frozen? a := by simp only [World.frozen?, h]
theorem cell_grown {w w' : World} {r : Option Nat} (h : w.grownBy w' r) {p : Addr} (hp : p.block < w.heap.size) (hne : some p.block ≠ r) : w'.cell? p = w.cell? p := cell_of_block (h.block p.block hp hne)
theorem frozen_grown {w w' : World} {r : Option Nat} (h : w.grownBy w' r) {p : Addr} (hp : p.block < w.heap.size) (hne : some p.block ≠ r) : w'.frozen? p = w.frozen? p := frozen_of_block (h.block p.block hp hne)
theorem grownBy_refl (w : World) (r : Option Nat) : w.grownBy w r := ⟨rfl, rfl, rfl, Nat.le_refl _, fun _ _ _ => rfl⟩
theorem grownBy_trans {a b c : World} {r : Option Nat} (h : a.grownBy b r) (k : b.grownBy c r) : a.grownBy c r :=
  ⟨k.os.trans h.os, k.tape.trans h.tape, k.output.trans h.output, Nat.le_trans h.size k.size, fun i hi hne => (k.block i (Nat.lt_of_lt_of_le hi h.size) hne).trans (h.block i hi hne)⟩
theorem rowBlock {w : World} {base : Nat} {e : TypeId} {size : Nat} {v : Value} {k : Nat} {xs : List Value} (h : w.ownsRow base e size v k xs) {b : Nat} (hb : v.ownBlock = some b) : base ≤ b ∧ b < w.heap.size ∧ ∃ cur, w.heap[b]? = some (.cells cur e (0, 0)) := by
  have hlt := h.lt b hb
  rcases h.2 with ⟨rfl, _⟩ | ⟨g, cap, cur, rfl, hg, hh, _⟩
  · cases hb
  · simp only [Value.ownBlock, Option.some.injEq] at hb
    subst hb
    exact ⟨hlt.1, hlt.2, cur, hh⟩
theorem ownsRow_kept {w w' : World} {base : Nat} {e : TypeId} {size : Nat} {v : Value} {k : Nat} {xs : List Value} (h : w.ownsRow base e size v k xs) (hb : ∀ b, v.ownBlock = some b → w'.heap[b]? = w.heap[b]?) : w'.ownsRow base e size v k xs := by
  obtain ⟨h1, h2⟩ := h
  refine ⟨h1, ?_⟩
  rcases h2 with h2 | ⟨g, cap, cur, rfl, p1, p2, p3⟩
  · exact .inl h2
  · exact .inr ⟨g, cap, cur, rfl, p1, (hb g rfl).trans p2, p3⟩
theorem idx_old {α : Type} [BEq α] [LawfulBEq α] {N : List α} {u v : α} (h : u ∈ N) : (N ++ [v]).idxOf u = N.idxOf u := by
  rw [List.idxOf_append, if_pos h]
theorem idx_new {α : Type} [BEq α] [LawfulBEq α] {N : List α} {v : α} (h : v ∉ N) : (N ++ [v]).idxOf v = N.length := by
  rw [List.idxOf_append, if_neg h]
  simp
theorem ownsRow_setCell_ne {w : World} {base : Nat} {e : TypeId} {size : Nat} {v : Value} {n : Nat} {xs : List Value} (h : w.ownsRow base e size v n xs) {b o : Nat} (hne : v.ownBlock ≠ some b) (u : Value) : (w.setCell ⟨b, o, none⟩ u).ownsRow base e size v n xs :=
  ownsRow_kept h (fun k hk => Below.heap_setCell _ _ _ _ (fun e => hne (by rw [hk, e])))
theorem cell_via {B : Nat} {w w' : World} {p : Addr} {v : Value} (hb : Below B w w') (hp : p.block < B) (h : w.cell? p = some v) : w'.cell? p = some v := (hb.cell hp).trans h
theorem frozen_via {B : Nat} {w w' : World} {p : Addr} (hb : Below B w w') (hp : p.block < B) (h : w.frozen? p = false) : w'.frozen? p = false := (hb.frozen hp).trans h
end Mm

theorem IsRowp.at {ok : Nat → Prop} {w : World} {ts : List T} {b o : Nat} (h : IsRowp ok w ts b o) {i : Nat} {t : T} (hi : ts[i]? = some t) : IsTp ok w t b (o + i * 2) := by
  induction ts generalizing o i with
  | nil => simp at hi
  | cons s ts ih =>
    simp only [IsRowp] at h
    cases i with
    | zero => simp at hi; subst hi; exact h.1
    | succ i =>
      have := ih h.2 (i := i) (by simpa using hi)
      rw [show o + (i + 1) * 2 = o + 2 + i * 2 from by omega]; exact this
theorem IsArgsp.elem {ok : Nat → Prop} {w : World} {ts : List T} {a : Option Addr} {c : Nat} (h : IsArgsp ok w ts a c) {i : Nat} (hi : i < ts.length) :
    ∃ (b o : Nat) (t : T) (a' : Option Addr) (c' : Nat), a = some ⟨b, o, none⟩ ∧ ok b ∧ ts[i]? = some t ∧ (Lit.int .i64 t.head).wf = true ∧ w.cell? ⟨b, o + i * 2, none⟩ = some (.int .i64 t.head) ∧
      w.cell? ⟨b, o + i * 2 + 1, none⟩ = some (.slice a' t.args.length c') ∧ IsArgsp ok w t.args a' c' := by
  obtain ⟨_, _, h3⟩ := h
  rcases h3 with rfl | ⟨b, o, rfl, h4, h5⟩
  · simp at hi
  · have ht := h5.at (List.getElem?_eq_getElem hi)
    obtain ⟨p0, p1, a', c', p2, p3⟩ := isTp_iff.1 ht
    exact ⟨b, o, _, a', c', rfl, h4, List.getElem?_eq_getElem hi, p0, p1, p2, p3⟩

end Go.Proofs.YtbdabdjpgmnejaaGreat
