/- Contracts of weigh's fits, anyPredicate and Term. -/
import Derived.Test.YtleohdddaadbeaaGreatQBe
import Derived.Lib.QuietBelow
import Derived.Deep.QuietTactic
import Derived.BigQuiet
import Derived.WalkSmall
namespace Go.Proofs.YtleohdddaadbeaaGreat
set_option linter.unusedVariables false
set_option linter.unusedSimpArgs false
open Go.RowKit

theorem bl_drew (W : World) (n : Nat) : Below W.heap.size W (W.drewN n) := ⟨rfl, rfl, rfl, Nat.le_refl _, fun _ _ => rfl⟩

/-- What is asked of a predicate on terms. -/
def PredT (f : Nat) (lb : Array Value) (p : T → Bool) (ts : List T) (n₀ : Nat) (w : World) : Prop :=
  ∀ (W : World) (t : T) (a : Option Addr) (c : Nat), t ∈ ts → Below w.heap.size w W → (Lit.int .i64 t.head).wf = true → IsArgs n₀ W t.args a c →
    Calls Tryz.prog f (#[tm t.head a t.args.length c] ++ lb) W fun e w' => e = .returned (.bool (p t)) ∧ Below W.heap.size W w'
def IdxT (p : T → Bool) (ts : List T) (w : World) (i : Value) (wr : World) : Prop := ∃ k : Nat, k ≤ ts.length ∧ i = .int .i64 k ∧ ts.any p = (ts.drop k).any p ∧ Below w.heap.size w wr

set_option maxRecDepth 100000 in
set_option maxHeartbeats 2000000 in
theorem indexT_any (p : T → Bool) (f : Nat) (lb : Array Value) (eg : ∀ args w, (callFunc f args).run Tryz.prog w = .ok (.enter f args) w) (ts : List T) (n₀ : Nat) (a : Option Addr) (c : Nat) (w : World) (hn : n₀ ≤ w.heap.size) (hA : IsArgs n₀ w ts a c)
    (hp : PredT f lb p ts n₀ w) :
    Calls Tryz.prog 77 #[.slice a ts.length c, .func (.func f) #[] lb] w fun e w' => ∃ j : Int, e = .returned (.int .i64 j) ∧ decide (0 ≤ j) = ts.any p ∧ Below w.heap.size w w' := by
  have hlc : ts.length ≤ c ∧ c ≤ maxLen := ⟨hA.1, hA.2.1⟩
  unfold maxLen at hlc
  obtain ⟨hl1, hl2⟩ := hlc
  have HA := Lib.hid hA
  have HP := Lib.hid hp
  clear hA hp
  go_enter Tryz.func77, Tryz.ntmps77
  go_wp2
  go_loopw [8] (fun i wr => IdxT p ts w i wr) (fun i _ => ts.length - (intOf i).toNat)
  case atStart => exact ⟨0, Nat.zero_le _, rfl, by simp, Below.refl _ _⟩
  case round =>
    obtain ⟨k, hk, rfl, hbd, hB⟩ := hrel
    have HBD := Lib.hid hbd
    have HB := Lib.hid hB
    have hbz := hB.size
    clear hbd hB
    by_cases hlt : k < ts.length
    · obtain ⟨b, o, s, a', c', rfl, hbn, hs, hswf, hc1, hc2, hA'⟩ := (HA.out.below (HB.out.mono hn)).elem (i := k) hlt
      have hk0 : (0 : Int) ≤ (k : Int) := Int.natCast_nonneg _
      have hk1 : (k : Int) < (ts.length : Int) := by omega
      have hbw : b < wr.heap.size := by omega
      have hcall := HP.out wr s a' c' (List.mem_of_getElem? hs) HB.out hswf hA'
      have hst : (ts.drop k).any p = (p s || (ts.drop (k + 1)).any p) := by
        obtain ⟨hkl, hke⟩ := List.getElem?_eq_some_iff.1 hs
        rw [List.drop_eq_getElem_cons hkl, hke]; rfl
      have HSTEP := Lib.hid hst
      clear hs hswf hA' hst
      cases hd : p s with
      | false =>
        rw [hd] at hcall
        have H0 := Lib.hid (show (ts.drop k).any p = (ts.drop (k + 1)).any p from by rw [HSTEP.out, hd]; rfl)
        clear hd
        go_wp2_with (go_at_fn f; refine hcall.mono ?_; rintro e w2 ⟨rfl, hb2⟩)
        have HB2 := Lib.hid (HB.out.trans (hb2.mono hbz))
        clear hb2
        go_roundw
        case rel => exact ⟨k + 1, by omega, by go_num, HBD.out.trans H0.out, HB2.out⟩
        case measure => simp [intOf]; omega
      | true =>
        rw [hd] at hcall
        have H0 := Lib.hid (show ts.any p = true from by rw [HBD.out, HSTEP.out, hd]; rfl)
        clear hd
        go_wp2_with (go_at_fn f; refine hcall.mono ?_; rintro e w2 ⟨rfl, hb2⟩)
        have HB2 := Lib.hid (HB.out.trans (hb2.mono hbz))
        clear hb2
        go_ret
        exact ⟨(k : Int), rfl, by rw [H0.out]; simp, HB2.out⟩
    · obtain rfl : k = ts.length := by omega
      have H0 := Lib.hid (show ts.any p = false from by rw [HBD.out, List.drop_of_length_le (Nat.le_refl _)]; rfl)
      go_wp2
      go_ret
      exact ⟨-1, rfl, by rw [H0.out]; rfl, HB.out⟩

theorem containsT_any (p : T → Bool) (f : Nat) (lb : Array Value) (eg : ∀ args w, (callFunc f args).run Tryz.prog w = .ok (.enter f args) w) (ts : List T) (n₀ : Nat) (a : Option Addr) (c : Nat) (w : World) (hn : n₀ ≤ w.heap.size) (hA : IsArgs n₀ w ts a c)
    (hp : PredT f lb p ts n₀ w) :
    Calls Tryz.prog 51 #[.slice a ts.length c, .func (.func f) #[] lb] w fun e w' => e = .returned (.bool (ts.any p)) ∧ Below w.heap.size w w' := by
  have CI := Lib.hid (indexT_any p f lb eg ts n₀ a c w hn hA hp)
  clear hA hp eg
  go_enter Tryz.func51, Tryz.ntmps51
  go_wp2_with fail
  refine CI.out.mono ?_
  rintro e w2 ⟨j, rfl, hj, hb⟩
  have HJ := Lib.hid hj
  have HB := Lib.hid hb
  clear hj hb
  go_wp2
  go_ret
  exact ⟨by rw [← HJ.out]; rfl, HB.out⟩

/-- The closure of fits. -/
theorem fits1_any (g : Sg) (ga : Option Addr) (gc : Nat) (t : T) (a : Option Addr) (c : Nat) (B : Nat) (W : World) (hB : B < W.heap.size) (hcell : W.cell? ⟨B, 0, none⟩ = some (.slice ga g.length gc))
    (hF : ∀ X, Below W.heap.size W X → Calls Tryz.prog 68 #[.slice ga g.length gc, tm t.head a t.args.length c] X fun e w' => e = .returned (.bool (fitsT g t)) ∧ Below X.heap.size X w') :
    Calls Tryz.prog 89 #[tm t.head a t.args.length c, .pointer (some ⟨B, 0, none⟩)] W fun e w' => e = .returned (.bool (!fitsT g t)) ∧ Below W.heap.size W w' := by
  have HF := Lib.hid hF
  clear hF
  have hne : B ≠ W.heap.size := by omega
  go_enter Tryz.func89, Tryz.ntmps89
  go_wp2_with fail
  refine (HF.out _ ((Below.refl _ _).alloc (Nat.le_refl _) _)).mono ?_
  rintro e w2 ⟨rfl, hb2⟩
  have HB2 := Lib.hid (((Below.refl _ W).alloc (Nat.le_refl _) _).trans (hb2.mono (by simp)))
  clear hb2
  go_wp2
  go_ret
  exact ⟨rfl, HB2.out⟩

set_option maxRecDepth 100000 in
set_option maxHeartbeats 2000000 in
theorem fits_any (g : Sg) : ∀ (N : Nat) (t : T), t.size ≤ N → ∀ (n₀ : Nat) (ga : Option Addr) (gc : Nat) (a : Option Addr) (c : Nat) (w : World), n₀ ≤ w.heap.size → IsSg n₀ w g ga gc → (Lit.int .i64 t.head).wf = true → IsArgs n₀ w t.args a c →
    Calls Tryz.prog 68 #[.slice ga g.length gc, tm t.head a t.args.length c] w fun e w' => e = .returned (.bool (fitsT g t)) ∧ Below w.heap.size w w' := by
  intro N
  induction N with
  | zero => intro t ht; have := T.size_pos t; omega
  | succ N ih =>
    intro t ht n₀ ga gc a c w hn hG hwf hA
    have IH := Lib.hid ih
    clear ih
    have HE := Lib.hid (fitsT_eq g t)
    have hlc : t.args.length ≤ c ∧ c ≤ maxLen := ⟨hA.1, hA.2.1⟩
    have hlg : g.length ≤ gc ∧ gc ≤ maxLen := ⟨hG.1, hG.2.1⟩
    unfold maxLen at hlc hlg
    obtain ⟨hl1, hl2⟩ := hlc
    obtain ⟨hl3, hl4⟩ := hlg
    have HA := Lib.hid hA
    have HG := Lib.hid hG
    have HS := Lib.hid (show ∀ s ∈ t.args, s.size ≤ N from fun s hs => by
      obtain ⟨i, hi⟩ := List.getElem?_of_mem hs
      have h1 := T.size_lt_of_mem hi
      have h2 := T.size_eq t
      omega)
    clear hA hG
    have HF := Lib.hid (show Below w.heap.size w ((w.alloc (.cells #[.slice ga g.length gc] 22)).alloc (tmCells t.head a t.args.length c)) from ((Below.refl _ w).alloc (Nat.le_refl _) _).alloc (by simp) _)
    by_cases q1 : t.head < 0
    · have hd := Lib.hid (show fitsT g t = true from by rw [HE.out]; simp [q1])
      go_enter Tryz.func68, Tryz.ntmps68
      go_wp2
      go_ret
      exact ⟨by rw [hd.out]; rfl, HF.out⟩
    by_cases q2 : t.head < (g.length : Int)
    · obtain ⟨b, o, x, rfl, hbn, hs, hxw, hc0, hc1, hc2, hc3⟩ := HG.out.elem (i := t.head.toNat) (by omega)
      have hk0 : (0 : Int) ≤ t.head := by omega
      have HAR := Lib.hid (show armOk g t.head t.args.length = decide ((t.args.length : Int) = x.ar) from by unfold armOk; rw [hs]; simp; omega)
      have hbw : b < w.heap.size := by omega
      obtain ⟨W1, hW1⟩ : ∃ W1, (w.alloc (.cells #[.slice (some ⟨b, o, none⟩) g.length gc] 22)).alloc (tmCells t.head a t.args.length c) = W1 := ⟨_, rfl⟩
      have hF1 : Below w.heap.size w W1 := by rw [← hW1]; exact HF.out
      have HF1 := Lib.hid hF1
      have hs1 : W1.heap.size = w.heap.size + 1 + 1 := by rw [← hW1]; simp
      have hg0 : W1.cell? ⟨w.heap.size, 0, none⟩ = some (.slice (some ⟨b, o, none⟩) g.length gc) := by rw [← hW1]; simp [go_sem]
      have ht0 : W1.cell? ⟨w.heap.size + 1, 0, none⟩ = some (.int .i64 t.head) := by rw [← hW1]; simp [go_sem]
      have ht1 : W1.cell? ⟨w.heap.size + 1, 1, none⟩ = some (.slice a t.args.length c) := by rw [← hW1]; simp [go_sem]
      have hx1 : W1.cell? ⟨b, o + t.head.toNat * 4 + 1, none⟩ = some (.int .i64 x.ar) := (hF1.cell (p := ⟨b, _, none⟩) hbw).trans hc1
      have HS1 := Lib.hid hs1
      by_cases q3 : (t.args.length : Int) = x.ar
      · have hd := Lib.hid (show fitsT g t = !(t.args.any fun s => !fitsT g s) from by
          rw [HE.out, HAR.out, fitsL_all]; simp [q1, q3, List.any_eq_not_all_not])
        have CT := Lib.hid (fun (n : Nat) => containsT_any (fun s => !fitsT g s) 89 #[.pointer (some ⟨w.heap.size, 0, none⟩)] (enters_of Tryz.func89 (by kernel_rfl) rfl) t.args n₀ a c
          (W1.drewN n) (show n₀ ≤ W1.heap.size from by omega) (HA.out.below ((HF1.out.trans ((bl_drew _ _).mono HF1.out.size)).mono hn))
          (fun W s a' c' hs hW hwf' hA' => by
            have hz1 := HS1.out
            have hz2 : W1.heap.size ≤ W.heap.size := hW.size
            have hW' : Below W1.heap.size W1 W := (bl_drew _ _).trans hW
            exact fits1_any g _ gc s a' c' w.heap.size W (by omega) ((hW'.cell (p := ⟨w.heap.size, 0, none⟩) (by show w.heap.size < W1.heap.size; omega)).trans hg0)
              (fun X hX => IH.out s (HS.out s hs) n₀ _ gc a' c' X (by have := hX.size; omega)
                (HG.out.below ((HF1.out.trans (hW'.mono HF1.out.size)).mono hn |>.trans (hX.mono (by omega)))) hwf' (hA'.below (hX.mono (by omega))))))
        clear hs hxw hs1 hF1
        go_enter Tryz.func68, Tryz.ntmps68
        go_wp2
        clear hW1
        go_quiet (fail)
        go_wp2_with (first | (go_at_call 51; refine (CT.out _).mono ?_; rintro e w3 ⟨rfl, hb3⟩))
        have HB3 := Lib.hid ((HF1.out.trans ((bl_drew _ _).mono HF1.out.size)).trans (hb3.mono HF1.out.size))
        clear hb3
        go_ret
        exact ⟨by rw [hd.out]; rfl, HB3.out⟩
      · have hd := Lib.hid (show fitsT g t = false from by
          rw [HE.out, HAR.out]; simp [q1, q3])
        have q4 : ((t.args.length : Int) != x.ar) = true := by simpa using q3
        clear hs hxw hs1 hF1
        go_enter Tryz.func68, Tryz.ntmps68
        go_wp2
        clear hW1
        go_quiet (fail)
        go_wp2
        go_ret
        exact ⟨by rw [hd.out]; rfl, HF1.out.trans ((bl_drew _ _).mono HF1.out.size)⟩
    · have hd := Lib.hid (show fitsT g t = false from by
        rw [HE.out]; unfold armOk
        rw [List.getElem?_eq_none (by omega)]; simp [q1])
      obtain ⟨W1, hW1⟩ : ∃ W1, (w.alloc (.cells #[.slice ga g.length gc] 22)).alloc (tmCells t.head a t.args.length c) = W1 := ⟨_, rfl⟩
      have HF1 := Lib.hid (show Below w.heap.size w W1 from by rw [← hW1]; exact HF.out)
      have hg0 : W1.cell? ⟨w.heap.size, 0, none⟩ = some (.slice ga g.length gc) := by rw [← hW1]; simp [go_sem]
      have ht0 : W1.cell? ⟨w.heap.size + 1, 0, none⟩ = some (.int .i64 t.head) := by rw [← hW1]; simp [go_sem]
      have ht1 : W1.cell? ⟨w.heap.size + 1, 1, none⟩ = some (.slice a t.args.length c) := by rw [← hW1]; simp [go_sem]
      go_enter Tryz.func68, Tryz.ntmps68
      go_wp2
      clear hW1
      go_quiet (fail)
      go_wp2
      go_ret
      exact ⟨by rw [hd.out]; rfl, HF1.out.trans ((bl_drew _ _).mono HF1.out.size)⟩

/-- The closure of anyPredicate. -/
theorem pred1_any (g : Sg) (ga : Option Addr) (gc : Nat) (t : T) (a : Option Addr) (c : Nat) (B n₀ : Nat) (W : World) (hB : B < W.heap.size) (hn : n₀ ≤ W.heap.size) (hcell : W.cell? ⟨B, 0, none⟩ = some (.slice ga g.length gc)) (hG : IsSg n₀ W g ga gc) (hft : fitsT g t = true)
    (hF : ∀ X, Below W.heap.size W X → Calls Tryz.prog 69 #[.slice ga g.length gc, .slice a t.args.length c] X fun e w' => e = .returned (.bool (predL g t.args)) ∧ Below X.heap.size X w') :
    Calls Tryz.prog 90 #[tm t.head a t.args.length c, .pointer (some ⟨B, 0, none⟩)] W fun e w' => e = .returned (.bool (predT g t)) ∧ Below W.heap.size W w' := by
  have HF := Lib.hid hF
  have HE := Lib.hid (predT_eq g t)
  have hlg : g.length ≤ gc ∧ gc ≤ maxLen := ⟨hG.1, hG.2.1⟩
  unfold maxLen at hlg
  obtain ⟨hl3, hl4⟩ := hlg
  have hne : B ≠ W.heap.size := by omega
  by_cases q1 : t.head < 0
  · have hd := Lib.hid (show predT g t = predL g t.args from by rw [HE.out]; unfold predS; simp [show ¬ 0 ≤ t.head from by omega])
    clear hF hG hft
    go_enter Tryz.func90, Tryz.ntmps90
    go_wp2_with fail
    refine (HF.out _ ((Below.refl _ _).alloc (Nat.le_refl _) _)).mono ?_
    rintro e w2 ⟨rfl, hb2⟩
    have HB2 := Lib.hid (((Below.refl _ W).alloc (Nat.le_refl _) _).trans (hb2.mono (by simp)))
    clear hb2
    go_wp2
    go_ret
    exact ⟨by rw [hd.out]; first | rfl | simp, HB2.out⟩
  · have hk : t.head.toNat < g.length := by
      have : fitsT g t = true := hft
      rw [fitsT_eq] at this
      simp [q1, armOk] at this
      obtain ⟨h1, _⟩ := this
      split at h1
      · rename_i x hx; exact (List.getElem?_eq_some_iff.1 hx).1
      · simp at h1
    have hk2 : t.head < (g.length : Int) := by omega
    have hk0 : 0 ≤ t.head := by omega
    obtain ⟨b, o, x, rfl, hbn, hs, hxw, hc0, hc1, hc2, hc3⟩ := hG.elem (i := t.head.toNat) hk
    have hbw : b < W.heap.size := by omega
    have hps : predS g t.head = x.tr := by unfold predS; rw [hs]; simp [hk0]
    clear hF hG hft hxw hs
    cases htr : x.tr with
    | true =>
      have hd := Lib.hid (show predT g t = true from by rw [HE.out, hps, htr]; rfl)
      rw [htr] at hc3
      clear hps htr
      go_enter Tryz.func90, Tryz.ntmps90
      go_wp2
      go_ret
      exact ⟨by rw [hd.out]; rfl, ((Below.refl _ W).alloc (Nat.le_refl _) _)⟩
    | false =>
      have hd := Lib.hid (show predT g t = predL g t.args from by rw [HE.out, hps, htr]; rfl)
      rw [htr] at hc3
      clear hps htr
      go_enter Tryz.func90, Tryz.ntmps90
      go_wp2_with fail
      refine (HF.out _ ((Below.refl _ _).alloc (Nat.le_refl _) _)).mono ?_
      rintro e w2 ⟨rfl, hb2⟩
      have HB2 := Lib.hid (((Below.refl _ W).alloc (Nat.le_refl _) _).trans (hb2.mono (by simp)))
      clear hb2
      go_wp2
      go_ret
      exact ⟨by rw [hd.out]; first | rfl | simp, HB2.out⟩

set_option maxRecDepth 100000 in
set_option maxHeartbeats 2000000 in
theorem predicate_any (g : Sg) : ∀ (N : Nat) (ts : List T), T.sizes ts ≤ N → (∀ t ∈ ts, fitsT g t = true ∧ bad (T.subs 1 t) = false) → ∀ (n₀ : Nat) (ga : Option Addr) (gc : Nat) (a : Option Addr) (c : Nat) (w : World), n₀ ≤ w.heap.size → IsSg n₀ w g ga gc → IsArgs n₀ w ts a c →
    Calls Tryz.prog 69 #[.slice ga g.length gc, .slice a ts.length c] w fun e w' => e = .returned (.bool (predL g ts)) ∧ Below w.heap.size w w' := by
  intro N
  induction N with
  | zero =>
    intro ts ht hf n₀ ga gc a c w hn hG hA
    have h0 : ts = [] := by cases ts with | nil => rfl | cons t ts => have := T.size_pos t; simp [T.sizes] at ht; omega
    subst h0
    have hlc : (([] : List T)).length ≤ c ∧ c ≤ maxLen := ⟨hA.1, hA.2.1⟩
    have HA := Lib.hid hA
    have HF := Lib.hid (show Below w.heap.size w (w.alloc (.cells #[.slice ga g.length gc] 22)) from (Below.refl _ w).alloc (Nat.le_refl _) _)
    have CT := Lib.hid (containsT_any (fun s => predT g s) 90 #[.pointer (some ⟨w.heap.size, 0, none⟩)] (enters_of Tryz.func90 (by kernel_rfl) rfl) [] n₀ a c
      (w.alloc (.cells #[.slice ga g.length gc] 22)) (Nat.le_trans hn HF.out.size) (HA.out.below (HF.out.mono hn)) (fun W s a' c' hs => absurd hs (by simp)))
    clear hA hG
    go_enter Tryz.func69, Tryz.ntmps69
    go_wp2_with (first | (go_at_call 51; refine CT.out.mono ?_; rintro e w3 ⟨rfl, hb3⟩))
    have HB3 := Lib.hid (HF.out.trans (hb3.mono HF.out.size))
    clear hb3
    go_ret
    exact ⟨by rw [predL_any]; rfl, HB3.out⟩
  | succ N ih =>
    intro ts ht hf n₀ ga gc a c w hn hG hA
    have IH := Lib.hid ih
    have HFT := Lib.hid hf
    clear ih hf
    have HA := Lib.hid hA
    have HG := Lib.hid hG
    have HS := Lib.hid (show ∀ s ∈ ts, T.sizes s.args ≤ N from fun s hs => by
      obtain ⟨i, hi⟩ := List.getElem?_of_mem hs
      have h1 := T.size_lt_of_mem hi
      have h2 := T.size_eq s
      omega)
    have HF := Lib.hid (show Below w.heap.size w (w.alloc (.cells #[.slice ga g.length gc] 22)) from (Below.refl _ w).alloc (Nat.le_refl _) _)
    have hlc : ts.length ≤ c ∧ c ≤ maxLen := ⟨hA.1, hA.2.1⟩
    have CT := Lib.hid (containsT_any (fun s => predT g s) 90 #[.pointer (some ⟨w.heap.size, 0, none⟩)] (enters_of Tryz.func90 (by kernel_rfl) rfl) ts n₀ a c
      (w.alloc (.cells #[.slice ga g.length gc] 22)) (Nat.le_trans hn HF.out.size) (HA.out.below (HF.out.mono hn))
      (fun W s a' c' hs hW hwf' hA' => by
        have hz1 : (w.alloc (.cells #[.slice ga g.length gc] 22)).heap.size = w.heap.size + 1 := by simp
        have hz2 := hW.size
        have hGW := HG.out.below ((HF.out.trans (hW.mono HF.out.size)).mono hn)
        refine pred1_any g ga gc s a' c' w.heap.size n₀ W (by omega) (by omega) ((hW.cell (p := ⟨w.heap.size, 0, none⟩) (by simp)).trans (by simp [go_sem])) hGW (HFT.out s hs).1 (fun X hX => ?_)
        by_cases hne : s.args = []
        · rw [hne]
          have hA0 : IsArgs n₀ X [] a' c' := by rw [hne] at hA'; exact hA'.below (hX.mono (by omega))
          have := IH.out [] (by simp [T.sizes]) (by simp) n₀ ga gc a' c' X (by have := hX.size; omega) (hGW.below (hX.mono (by omega))) hA0
          exact this
        · refine IH.out s.args (HS.out s hs) (fun u hu => ?_) n₀ ga gc a' c' X (by have := hX.size; omega) (hGW.below (hX.mono (by omega))) (hA'.below (hX.mono (by omega)))
          obtain ⟨k, hk⟩ := List.getElem?_of_mem hu
          have h1 := HFT.out s hs
          refine ⟨?_, good_arg h1.2 hk⟩
          have h2 := h1.1
          rw [fitsT_eq] at h2
          simp only [Bool.or_eq_true, decide_eq_true_eq, Bool.and_eq_true, fitsL_all, List.all_eq_true] at h2
          rcases h2 with h | h
          · exact absurd (good_var h1.2 h) hne
          · exact h.2 u hu))
    clear hA hG
    go_enter Tryz.func69, Tryz.ntmps69
    go_wp2_with (first | (go_at_call 51; refine CT.out.mono ?_; rintro e w3 ⟨rfl, hb3⟩))
    have HB3 := Lib.hid (HF.out.trans (hb3.mono HF.out.size))
    clear hb3
    go_ret
    exact ⟨by rw [predL_any]; rfl, HB3.out⟩

end Go.Proofs.YtleohdddaadbeaaGreat
