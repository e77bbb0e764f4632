/- QBr: joined of R7b, R7t, Rck9, Qt0, Ec. -/
import Derived.Test.YtpncmdlbmnmahaaGreatQBq
import Derived.Test.YtpncmdlbmnmahaaGreatQBe
import Derived.Test.YtpncmdlbmnmahaaGreatQBm
import Derived.Test.YtpncmdlbmnmahaaGreatQBb
import Derived.Lib.QuietBelow
import Derived.Deep.CutRange
import Derived.Test.YtpncmdlbmnmahaaGreatQBp
import Derived.Test.YtpncmdlbmnmahaaGreatQBc
import Derived.Test.YtpncmdlbmnmahaaGreatQBg
import Derived.Test.YtpncmdlbmnmahaaGreatQBh
import Derived.BigQuiet
import Derived.Deep.QuietTactic
/- Contracts of the document's answer for terms over a signature (layer 7). -/
namespace Go.Proofs.YtpncmdlbmnmahaaGreat
set_option linter.unusedVariables false
set_option linter.unusedSimpArgs false
open Go.RowKit
theorem fitsT_miss {g : Sg} {t : T} (h0 : 0 ≤ t.head) (h : armOk g t.head t.args.length = false) : fitsT g t = false := by
  rw [fitsT_eq, h]; simp; omega
theorem fitsT_hit {g : Sg} {t : T} (h0 : 0 ≤ t.head) (h : armOk g t.head t.args.length = true) : fitsT g t = fitsL g t.args := by
  rw [fitsT_eq, h]; simp; omega
def KnI (g : Sg) (t : T) (B : Nat) (w1 : World) (i : Value) (wr : World) : Prop := ∃ k : Nat, k ≤ t.args.length ∧ i = .int .i64 k ∧ fitsL g (t.args.take k) = true ∧ Below B w1 wr
set_option maxRecDepth 100000 in
set_option maxHeartbeats 4000000 in
theorem r7known_any (g : Sg) : ∀ (N : Nat) (t : T), t.size ≤ N → ∀ (n₀ : Nat) (ga : Option Addr) (gc : Nat) (a : Option Addr) (c : Nat) (w : World), n₀ ≤ w.heap.size → IsSg n₀ w g ga gc → IsArgs n₀ w t.args a c →
    Calls Tryz.prog 85 #[.slice ga g.length gc, tm t.head a t.args.length c] w fun e w' => e = .returned (.bool (fitsT g t)) ∧ Below w.heap.size w w' := by
  intro N
  induction N with
  | zero => intro t ht; have := T.size_pos t; omega
  | succ N ih =>
    intro t ht n₀ ga gc a c w hn hG hA
    have IH := Lib.hid ih
    clear ih
    have hlc : t.args.length ≤ c ∧ c ≤ maxLen := ⟨hA.1, hA.2.1⟩
    have hlg : g.length ≤ gc ∧ gc ≤ maxLen := ⟨hG.1, hG.2.1⟩
    unfold maxLen at hlc hlg
    obtain ⟨hl1, hl2⟩ := hlc
    obtain ⟨hl3, hl4⟩ := hlg
    have HS := Lib.hid (show ∀ s ∈ t.args, s.size ≤ N from fun s hs => by
      obtain ⟨i, hi⟩ := List.getElem?_of_mem hs
      have h1 := T.size_lt_of_mem hi
      have h2 := T.size_eq t
      omega)
    have HA := Lib.hid hA
    have HG := Lib.hid hG
    clear hA hG
    obtain ⟨W1, hW1⟩ : ∃ W1, w.alloc (tmCells t.head a t.args.length c) = W1 := ⟨_, rfl⟩
    have HF := Lib.hid (show Below w.heap.size w W1 from by rw [← hW1]; exact (Below.refl _ w).alloc (Nat.le_refl _) _)
    have hs1 : W1.heap.size = w.heap.size + 1 := by rw [← hW1]; simp
    have ht0 : W1.cell? ⟨w.heap.size, 0, none⟩ = some (.int .i64 t.head) := by rw [← hW1]; simp [go_sem]
    have ht1 : W1.cell? ⟨w.heap.size, 1, none⟩ = some (.slice a t.args.length c) := by rw [← hW1]; simp [go_sem]
    by_cases q1 : t.head < 0
    · have HD := Lib.hid (show fitsT g t = true from by rw [fitsT_eq]; simp [q1])
      go_enter Tryz.func85, Tryz.ntmps85
      go_wp2
      go_ret
      exact ⟨by rw [HD.out]; rfl, HF.out⟩
    by_cases q2 : (g.length : Int) ≤ t.head
    · have HD := Lib.hid (fitsT_miss (g := g) (t := t) (by omega) (by unfold armOk; rw [List.getElem?_eq_none (by omega)]; simp; omega))
      go_enter Tryz.func85, Tryz.ntmps85
      go_wp2
      clear hW1
      go_quiet (fail)
      go_wp2
      go_ret
      exact ⟨by rw [HD.out]; rfl, HF.out.trans ((bl_drew' _ _).mono HF.out.size)⟩
    obtain ⟨b, o, x, rfl, hbn, hs, hxw, hc0, hc1, hc2, hc3⟩ := HG.out.elem (i := t.head.toNat) (by omega)
    have hk0 : (0 : Int) ≤ t.head := by omega
    have hk1 : t.head < (g.length : Int) := by omega
    have HAR := Lib.hid (show armOk g t.head t.args.length = decide ((t.args.length : Int) = x.ar) from by unfold armOk; rw [hs]; simp; omega)
    have hbw : b < w.heap.size := by omega
    have hx1 : W1.cell? ⟨b, o + t.head.toNat * 4 + 1, none⟩ = some (.int .i64 x.ar) := (HF.out.cell (p := ⟨b, _, none⟩) hbw).trans hc1
    clear hs hxw hc0 hc1 hc2 hc3
    by_cases q3 : (t.args.length : Int) = x.ar
    · have HD := Lib.hid (fitsT_hit (g := g) (t := t) hk0 (by rw [HAR.out]; exact decide_eq_true q3))
      have q3' : ((t.args.length : Int) != x.ar) = false := by simpa using q3
      go_enter Tryz.func85, Tryz.ntmps85
      go_wp2
      clear hW1
      go_quiet (fail)
      go_wp2
      go_loopw [5] (fun i wr => KnI g t (w.heap.size + 1) W1 i wr) (fun i _ => t.args.length - (intOf i).toNat)
      case atStart => exact ⟨0, Nat.zero_le _, rfl, rfl, (bl_drew' _ _).mono (by omega)⟩
      case round =>
        obtain ⟨k, hk, rfl, hpre, hB⟩ := hrel
        have HPRE := Lib.hid hpre
        have HB := Lib.hid hB
        have hbz := hB.size
        have hv1 : wr.cell? ⟨w.heap.size, 1, none⟩ = some (.slice a t.args.length c) := (hB.cell (p := ⟨w.heap.size, 1, none⟩) (by simp)).trans ht1
        have HBW := Lib.hid (show Below w.heap.size w wr from HF.out.trans (hB.mono (by omega)))
        clear hpre hB hx1 ht0 ht1
        by_cases hlt : k < t.args.length
        · obtain ⟨b', o', s, a', c', rfl, hbn', hs, hswf, hc1, hc2, hA'⟩ := (HA.out.below (HBW.out.mono hn)).elem (i := k) hlt
          have hk2 : (0 : Int) ≤ (k : Int) := Int.natCast_nonneg _
          have hk3 : (k : Int) < (t.args.length : Int) := by omega
          have HSK := Lib.hid hs
          have CK := Lib.hid (IH.out s (HS.out s (List.mem_of_getElem? hs)) n₀ (some ⟨b, o, none⟩) gc a' c' wr (by omega) (HG.out.below (HBW.out.mono hn)) hA')
          clear hs hswf hA'
          go_wp2_with fail
          refine CK.out.mono ?_
          rintro e w2 ⟨rfl, hb2⟩
          have HB2 := Lib.hid (HB.out.trans (hb2.mono (by omega)))
          have HBW2 := Lib.hid (HBW.out.trans (hb2.mono HBW.out.size))
          clear hb2
          cases hf : fitsT g s with
          | true =>
            have HT := Lib.hid (show fitsL g (t.args.take (k + 1)) = true from by rw [fitsL_take HSK.out, HPRE.out, hf]; rfl)
            clear hf
            go_wp2
            go_roundw
            case rel => exact ⟨k + 1, by omega, by go_num, HT.out, HB2.out⟩
            case measure => simp [intOf]; omega
          | false =>
            have HE := Lib.hid (show fitsT g t = false from by rw [HD.out]; exact fitsL_bad HSK.out hf)
            clear hf
            go_wp2
            go_ret
            exact ⟨by rw [HE.out]; rfl, HBW2.out⟩
        · obtain rfl : k = t.args.length := by omega
          have HE := Lib.hid (show fitsT g t = true from by rw [HD.out]; have := HPRE.out; rwa [List.take_length] at this)
          go_wp2
          go_ret
          exact ⟨by rw [HE.out]; rfl, HBW.out⟩
    · have HD := Lib.hid (fitsT_miss (g := g) (t := t) hk0 (by rw [HAR.out]; exact decide_eq_false q3))
      have q3' : ((t.args.length : Int) != x.ar) = true := by simpa using q3
      go_enter Tryz.func85, Tryz.ntmps85
      go_wp2
      clear hW1
      go_quiet (fail)
      go_wp2
      go_ret
      exact ⟨by rw [HD.out]; rfl, HF.out.trans ((bl_drew' _ _).mono HF.out.size)⟩
theorem r7Truth_any (g : Sg) (t : T) (n₀ : Nat) (ga : Option Addr) (gc : Nat) (a : Option Addr) (c : Nat) (w : World) (hn : n₀ ≤ w.heap.size) (hG : IsSg n₀ w g ga gc) (hA : IsArgs n₀ w t.args a c) :
    Calls Tryz.prog 62 #[.slice ga g.length gc, tm t.head a t.args.length c] w fun e w' => e = .returned (.bool (predS g t.head)) ∧ Below w.heap.size w w' := by
  have hlg : g.length ≤ gc ∧ gc ≤ maxLen := ⟨hG.1, hG.2.1⟩
  unfold maxLen at hlg
  obtain ⟨hl3, hl4⟩ := hlg
  have HF := Lib.hid (show Below w.heap.size w (w.alloc (tmCells t.head a t.args.length c)) from (Below.refl _ w).alloc (Nat.le_refl _) _)
  by_cases q1 : t.head < 0
  · have HD := Lib.hid (show predS g t.head = false from by unfold predS; simp [show ¬ 0 ≤ t.head from by omega])
    clear hG hA
    go_enter Tryz.func62, Tryz.ntmps62
    go_wp2
    go_ret
    exact ⟨by rw [HD.out]; rfl, HF.out⟩
  by_cases q2 : t.head < (g.length : Int)
  · obtain ⟨b, o, x, rfl, hbn, hs, hxw, hc0, hc1, hc2, hc3⟩ := hG.elem (i := t.head.toNat) (by omega)
    have hk0 : (0 : Int) ≤ t.head := by omega
    have HD := Lib.hid (show predS g t.head = x.tr from by unfold predS; rw [hs]; simp [hk0])
    have hbw : b < w.heap.size := by omega
    clear hG hA hs hxw hc0 hc1 hc2
    go_enter Tryz.func62, Tryz.ntmps62
    go_wp2
    go_ret
    exact ⟨by rw [HD.out]; rfl, HF.out⟩
  · have HD := Lib.hid (show predS g t.head = false from by unfold predS; rw [List.getElem?_eq_none (by omega)]; simp)
    clear hG hA
    go_enter Tryz.func62, Tryz.ntmps62
    go_wp2
    go_ret
    exact ⟨by rw [HD.out]; rfl, HF.out⟩
def ThI (g : Sg) (t : T) (B : Nat) (w1 : World) (i : Value) (wr : World) : Prop := ∃ k : Nat, k ≤ t.args.length ∧ i = .int .i64 k ∧ predL g (t.args.take k) = false ∧ Below B w1 wr
set_option maxRecDepth 100000 in
set_option maxHeartbeats 4000000 in
theorem r7things_any (g : Sg) : ∀ (N : Nat) (t : T), t.size ≤ N → ∀ (n₀ : Nat) (ga : Option Addr) (gc : Nat) (a : Option Addr) (c : Nat) (w : World), n₀ ≤ w.heap.size → IsSg n₀ w g ga gc → IsArgs n₀ w t.args a c →
    Calls Tryz.prog 86 #[.slice ga g.length gc, tm t.head a t.args.length c] w fun e w' => e = .returned (.bool (!predL g t.args)) ∧ Below w.heap.size w w' := by
  intro N
  induction N with
  | zero => intro t ht; have := T.size_pos t; omega
  | succ N ih =>
    intro t ht n₀ ga gc a c w hn hG hA
    have IH := Lib.hid ih
    clear ih
    have hlc : t.args.length ≤ c ∧ c ≤ maxLen := ⟨hA.1, hA.2.1⟩
    unfold maxLen at hlc
    obtain ⟨hl1, hl2⟩ := hlc
    have HS := Lib.hid (show ∀ s ∈ t.args, s.size ≤ N from fun s hs => by
      obtain ⟨i, hi⟩ := List.getElem?_of_mem hs
      have h1 := T.size_lt_of_mem hi
      have h2 := T.size_eq t
      omega)
    have HA := Lib.hid hA
    have HG := Lib.hid hG
    clear hA hG
    go_enter Tryz.func86, Tryz.ntmps86
    go_wp2
    obtain ⟨W1, hW1⟩ : ∃ W1, w.alloc (tmCells t.head a t.args.length c) = W1 := ⟨_, rfl⟩
    have HF := Lib.hid (show Below w.heap.size w W1 from by rw [← hW1]; exact (Below.refl _ w).alloc (Nat.le_refl _) _)
    have hs1 : W1.heap.size = w.heap.size + 1 := by rw [← hW1]; simp
    have ht1 : W1.cell? ⟨w.heap.size, 1, none⟩ = some (.slice a t.args.length c) := by rw [← hW1]; simp [go_sem]
    rw [hW1]
    clear hW1
    go_loopw [5] (fun i wr => ThI g t (w.heap.size + 1) W1 i wr) (fun i _ => t.args.length - (intOf i).toNat)
    case atStart => exact ⟨0, Nat.zero_le _, rfl, rfl, Below.refl _ _⟩
    case round =>
      obtain ⟨k, hk, rfl, hpre, hB⟩ := hrel
      have HPRE := Lib.hid hpre
      have HB := Lib.hid hB
      have hbz := hB.size
      have hv1 : wr.cell? ⟨w.heap.size, 1, none⟩ = some (.slice a t.args.length c) := (hB.cell (p := ⟨w.heap.size, 1, none⟩) (by simp)).trans ht1
      have HBW := Lib.hid (show Below w.heap.size w wr from HF.out.trans (hB.mono (by omega)))
      clear hpre hB ht1
      by_cases hlt : k < t.args.length
      · obtain ⟨b', o', s, a', c', rfl, hbn', hs, hswf, hc1, hc2, hA'⟩ := (HA.out.below (HBW.out.mono hn)).elem (i := k) hlt
        have hk2 : (0 : Int) ≤ (k : Int) := Int.natCast_nonneg _
        have hk3 : (k : Int) < (t.args.length : Int) := by omega
        have HSK := Lib.hid hs
        have CT := Lib.hid (r7Truth_any g s n₀ ga gc a' c' wr (by omega) (HG.out.below (HBW.out.mono hn)) hA')
        have CK := Lib.hid (fun (W : World) (hW : Below wr.heap.size wr W) => IH.out s (HS.out s (List.mem_of_getElem? hs)) n₀ ga gc a' c' W (by have := hW.size; omega) (HG.out.below ((HBW.out.trans (hW.mono HBW.out.size)).mono hn)) (hA'.below (hW.mono (by omega))))
        have hbw' : b' < wr.heap.size := by omega
        clear hs hswf hA'
        go_wp2_with fail
        refine CT.out.mono ?_
        rintro e w2 ⟨rfl, hb2⟩
        have HB2 := Lib.hid (HB.out.trans (hb2.mono (by omega)))
        have HBW2 := Lib.hid (HBW.out.trans (hb2.mono HBW.out.size))
        have hb2z := hb2.size
        cases hp : predS g s.head with
        | true =>
          have HE := Lib.hid (show predL g t.args = true from predL_hit HSK.out (by rw [predT_eq, hp]; rfl))
          clear hp hb2
          go_wp2
          go_ret
          exact ⟨by rw [HE.out]; rfl, HBW2.out⟩
        | false =>
          have hv2 : w2.cell? ⟨w.heap.size, 1, none⟩ = some (.slice (some ⟨b', o', none⟩) t.args.length c) := (hb2.cell (p := ⟨w.heap.size, 1, none⟩) (by show w.heap.size < _; omega)).trans hv1
          have hd1 := (hb2.cell (p := ⟨b', o' + k * 2, none⟩) hbw').trans hc1
          have hd2 := (hb2.cell (p := ⟨b', o' + k * 2 + 1, none⟩) hbw').trans hc2
          have CK2 := Lib.hid (CK.out w2 hb2)
          have HPS := Lib.hid hp
          clear hb2 hv1 hc1 hc2 hp CK CT
          go_wp2_with fail
          refine CK2.out.mono ?_
          rintro e w3 ⟨rfl, hb3⟩
          have HB3 := Lib.hid (HB2.out.trans (hb3.mono (by omega)))
          have HBW3 := Lib.hid (HBW2.out.trans (hb3.mono HBW2.out.size))
          clear hb3
          cases hf : predL g s.args with
          | false =>
            have HT := Lib.hid (show predL g (t.args.take (k + 1)) = false from by rw [predL_take HSK.out, HPRE.out, predT_eq, HPS.out, hf]; rfl)
            clear hf
            go_wp2
            go_roundw
            case rel => exact ⟨k + 1, by omega, by go_num, HT.out, HB3.out⟩
            case measure => simp [intOf]; omega
          | true =>
            have HE := Lib.hid (show predL g t.args = true from predL_hit HSK.out (by rw [predT_eq, hf]; simp))
            clear hf
            go_wp2
            go_ret
            exact ⟨by rw [HE.out]; rfl, HBW3.out⟩
      · obtain rfl : k = t.args.length := by omega
        have HE := Lib.hid (show predL g t.args = false from by have := HPRE.out; rwa [List.take_length] at this)
        go_wp2
        go_ret
        exact ⟨by rw [HE.out]; rfl, HBW.out⟩
end Go.Proofs.YtpncmdlbmnmahaaGreat

/- Contract of the document's answer: Term (layer 7). -/
namespace Go.Proofs.YtpncmdlbmnmahaaGreat
set_option linter.unusedVariables false
set_option linter.unusedSimpArgs false
open Go.RowKit
set_option maxRecDepth 100000 in
set_option maxHeartbeats 2000000 in
theorem r7Term_any (g : Sg) (t : T) (hsz : t.size ≤ 1000000000000) (n₀ : Nat) (ga : Option Addr) (gc : Nat) (a : Option Addr) (c : Nat) (w : World) (hn : n₀ ≤ w.heap.size) (hG : IsSg n₀ w g ga gc) (hA : IsArgs n₀ w t.args a c) :
    Calls Tryz.prog 61 #[.slice ga g.length gc, tm t.head a t.args.length c] w fun e w' => e = .returned (.int .i64 (errT g t)) ∧ Below w.heap.size w w' := by
  obtain ⟨W1, hW1⟩ : ∃ W1, w.alloc (tmCells t.head a t.args.length c) = W1 := ⟨_, rfl⟩
  have L1 := Lib.hid (show ∀ W, Below W1.heap.size W1 W → W.cell? ⟨w.heap.size, 0, none⟩ = some (.int .i64 t.head) ∧ W.cell? ⟨w.heap.size, 1, none⟩ = some (.slice a t.args.length c) ∧ IsSg n₀ W g ga gc ∧ IsArgs n₀ W t.args a c ∧ Below w.heap.size w W ∧ n₀ ≤ W.heap.size from fun W hW => by
    have h0 : Below w.heap.size w W1 := by rw [← hW1]; exact (Below.refl _ w).alloc (Nat.le_refl _) _
    have h := h0.trans (hW.mono h0.size)
    exact ⟨(hW.cell (p := ⟨w.heap.size, 0, none⟩) (by rw [← hW1]; simp)).trans (by rw [← hW1]; simp [go_sem]), (hW.cell (p := ⟨w.heap.size, 1, none⟩) (by rw [← hW1]; simp)).trans (by rw [← hW1]; simp [go_sem]), hG.below (h.mono hn), hA.below (h.mono hn), h, Nat.le_trans hn h.size⟩)
  clear hG hA
  go_enter Tryz.func61, Tryz.ntmps61
  go_wp2_with fail
  try rw [hW1]
  obtain ⟨_, _, hG1, _, _, hn1⟩ := L1.out W1 (Below.refl _ _)
  refine (r7Right_any g n₀ ga gc W1 hn1 hG1).mono ?_
  rintro e w2 ⟨rfl, hb2⟩
  have B2 := Lib.hid hb2
  clear hb2 hG1 hW1
  obtain ⟨c0, c1, hG2, hA2, hb, hn2⟩ := L1.out w2 B2.out
  cases hr : rightG g with
  | false =>
    have HD := Lib.hid (show errT g t = 1 from by unfold errT; rw [hr]; rfl)
    have HB := Lib.hid hb
    clear hr hG2 hA2 hb
    go_wp2
    go_ret
    exact ⟨by rw [HD.out]; rfl, HB.out⟩
  | true =>
  have HR := Lib.hid hr
  have CK := Lib.hid (refCheck_any t hsz n₀ a c w2 hn2 hA2)
  clear hr hG2 hA2 hb
  go_wp2_with fail
  refine CK.out.mono ?_
  rintro e w3 ⟨rfl, hb3⟩
  have B3 := Lib.hid (B2.out.trans (hb3.mono B2.out.size))
  clear hb3 c0 c1 B2 CK
  obtain ⟨c0, c1, hG3, hA3, hb, hn3⟩ := L1.out w3 B3.out
  by_cases hc : t.check = 0
  case neg =>
    have HD := Lib.hid (show errT g t = t.check from by unfold errT; rw [HR.out, if_pos rfl, if_neg hc])
    obtain ⟨k, hk⟩ : ∃ k, t.check = k := ⟨_, rfl⟩
    rw [hk] at HD hc ⊢
    have hk0 : (k != 0) = true := by simpa using hc
    have HB := Lib.hid hb
    clear hG3 hA3 hb hc hk
    go_wp2
    go_ret
    exact ⟨by rw [HD.out]; rfl, HB.out⟩
  have HC := Lib.hid hc
  rw [hc]
  have CN := Lib.hid (r7known_any g t.size t (Nat.le_refl _) n₀ ga gc a c w3 hn3 hG3 hA3)
  clear hc hG3 hA3 hb
  go_wp2_with fail
  refine CN.out.mono ?_
  rintro e w4 ⟨rfl, hb4⟩
  have B4 := Lib.hid (B3.out.trans (hb4.mono B3.out.size))
  clear hb4 c0 c1 B3 CN
  obtain ⟨c0, c1, hG4, hA4, hb, hn4⟩ := L1.out w4 B4.out
  cases hf : fitsT g t with
  | false =>
    have HD := Lib.hid (show errT g t = 1 from by unfold errT; rw [HR.out, if_pos rfl, if_pos HC.out, hf]; rfl)
    have HB := Lib.hid hb
    clear hf hG4 hA4 hb
    go_wp2
    go_ret
    exact ⟨by rw [HD.out]; rfl, HB.out⟩
  | true =>
  have HF := Lib.hid hf
  have CT := Lib.hid (r7things_any g t.size t (Nat.le_refl _) n₀ ga gc a c w4 hn4 hG4 hA4)
  clear hf hG4 hA4 hb
  go_wp2_with fail
  refine CT.out.mono ?_
  rintro e w5 ⟨rfl, hb5⟩
  have B5 := Lib.hid (B4.out.trans (hb5.mono B4.out.size))
  clear hb5 c0 c1 B4 CT
  obtain ⟨_, _, _, _, hb, _⟩ := L1.out w5 B5.out
  have HB := Lib.hid hb
  clear hb
  cases hp : predL g t.args with
  | true =>
    have HD := Lib.hid (show errT g t = 10 from by unfold errT; rw [HR.out, if_pos rfl, if_pos HC.out, HF.out, if_pos rfl, hp]; rfl)
    clear hp
    go_wp2
    go_ret
    exact ⟨by rw [HD.out]; rfl, HB.out⟩
  | false =>
    have HD := Lib.hid (show errT g t = 0 from by unfold errT; rw [HR.out, if_pos rfl, if_pos HC.out, HF.out, if_pos rfl, hp]; rfl)
    clear hp
    go_wp2
    go_ret
    exact ⟨by rw [HD.out]; rfl, HB.out⟩
end Go.Proofs.YtpncmdlbmnmahaaGreat

/- Contract of the document's answer: Check of literals (layer 9). -/
namespace Go.Proofs.YtpncmdlbmnmahaaGreat
set_option linter.unusedVariables false
set_option linter.unusedSimpArgs false
open Go.RowKit
set_option maxRecDepth 100000 in
set_option maxHeartbeats 4000000 in
theorem rLitCheck_any (g : Sg) (x : LV) (hx : x.sz) (n₀ : Nat) (ga : Option Addr) (gc : Nat) (w : World) (hn : n₀ ≤ w.heap.size) (hG : IsSg n₀ w g ga gc) (hX : IsLv n₀ w x) :
    Calls Tryz.prog 42 #[.slice ga g.length gc, x.v] w fun e w' => e = .returned (.int .i64 (errL g x.l x.r)) ∧ Below w.heap.size w w' := by
  have d0 := (((Later.below (Below.refl _ w)).and (later_lv (hX.mono hn))).and (later_sg (hG.mono hn))).pushL (Below.refl _ _) x
  have C1 := Lib.hid (fun (W : World) (hG : IsSg W.heap.size W g ga gc) (hX : IsLv W.heap.size W x) => r7Term_any g x.l hx.1 W.heap.size ga gc x.pa x.ca W (Nat.le_refl _) hG hX.la)
  have C2 := Lib.hid (fun (W : World) (hG : IsSg W.heap.size W g ga gc) (hX : IsLv W.heap.size W x) => r7Term_any g x.r hx.2 W.heap.size ga gc x.pb x.cb W (Nat.le_refl _) hG hX.ra)
  have C3 := Lib.hid (fun (W : World) (hG : IsSg W.heap.size W g ga gc) (hX : IsLv W.heap.size W x) => r7Truth_any g x.l W.heap.size ga gc x.pa x.ca W (Nat.le_refl _) hG hX.la)
  have C4 := Lib.hid (fun (W : World) (hG : IsSg W.heap.size W g ga gc) (hX : IsLv W.heap.size W x) => r7Truth_any g x.r W.heap.size ga gc x.pb x.cb W (Nat.le_refl _) hG hX.ra)
  have D := Lib.hid d0
  clear d0 hG hX
  go_enter Tryz.func42, Tryz.ntmps42
  go_wp2_with fail
  generalize w.alloc x.obj = w1 at D ⊢
  generalize hb0 : w.heap.size = b0 at D ⊢
  have HB0 := Lib.hid hb0
  clear hb0
  refine (C1.out w1 D.out.now.2.1 D.out.now.2.2.1).mono ?_
  rintro e w2 ⟨rfl, hb⟩
  have D2 := Lib.hid (D.out.mv hb)
  clear hb D C1
  obtain ⟨⟨x0, x1, x2, x3, x4⟩, _⟩ := D2.out.now
  by_cases h1 : errT g x.l = 0
  case neg =>
    have HE := Lib.hid (errL_left (r := x.r) h1)
    have HQ := Lib.hid D2.out.now.2.2.2
    obtain ⟨k, hk⟩ : ∃ k, errT g x.l = k := ⟨_, rfl⟩
    rw [hk] at HE h1 ⊢
    have h2 : (k != 0) = true := by simpa using h1
    clear h1 hk
    go_wp2
    go_ret
    exact ⟨by rw [HE.out]; rfl, by rw [HB0.out]; exact HQ.out⟩
  have H1 := Lib.hid h1
  rw [h1]
  clear h1
  go_wp2_with fail
  refine (C2.out w2 D2.out.now.2.1 D2.out.now.2.2.1).mono ?_
  clear x0 x1 x2 x3 x4
  rintro e w3 ⟨rfl, hb⟩
  have D3 := Lib.hid (D2.out.mv hb)
  clear hb D2 C2
  obtain ⟨⟨x0, x1, x2, x3, x4⟩, _⟩ := D3.out.now
  by_cases h1 : errT g x.r = 0
  case neg =>
    have HE := Lib.hid (errL_right H1.out h1)
    have HQ := Lib.hid D3.out.now.2.2.2
    obtain ⟨k, hk⟩ : ∃ k, errT g x.r = k := ⟨_, rfl⟩
    rw [hk] at HE h1 ⊢
    have h2 : (k != 0) = true := by simpa using h1
    clear h1 hk
    go_wp2
    go_ret
    exact ⟨by rw [HE.out]; rfl, by rw [HB0.out]; exact HQ.out⟩
  have HE := Lib.hid (errL_sort H1.out h1)
  rw [h1]
  clear h1
  go_wp2_with fail
  refine (C3.out w3 D3.out.now.2.1 D3.out.now.2.2.1).mono ?_
  clear x0 x1 x2 x3 x4
  rintro e w4 ⟨rfl, hb⟩
  have D4 := Lib.hid (D3.out.mv hb)
  clear hb D3 C3
  obtain ⟨⟨x0, x1, x2, x3, x4⟩, _⟩ := D4.out.now
  cases hp : predS g x.l.head with
  | true =>
    have HQ := Lib.hid D4.out.now.2.2.2
    by_cases hr : x.r.head = 0
    · have HS := Lib.hid (show errL g x.l x.r = 0 from by rw [HE.out]; unfold sortE; rw [if_pos hp, if_pos hr])
      rw [hr] at x3
      clear hp hr
      go_wp2
      go_ret
      exact ⟨by rw [HS.out]; rfl, by rw [HB0.out]; exact HQ.out⟩
    · have HS := Lib.hid (show errL g x.l x.r = 10 from by rw [HE.out]; unfold sortE; rw [if_pos hp, if_neg hr])
      have hr' : (x.r.head != 0) = true := by simpa using hr
      clear hp hr
      go_wp2
      go_ret
      exact ⟨by rw [HS.out]; rfl, by rw [HB0.out]; exact HQ.out⟩
  | false =>
    have HS := Lib.hid (show errL g x.l x.r = if predS g x.r.head then 10 else 0 from by rw [HE.out]; unfold sortE; rw [if_neg (by rw [hp]; decide)])
    clear hp
    go_wp2_with fail
    refine (C4.out w4 D4.out.now.2.1 D4.out.now.2.2.1).mono ?_
    clear x0 x1 x2 x3 x4
    rintro e w5 ⟨rfl, hb⟩
    have HQ := Lib.hid (D4.out.mv hb).now.2.2.2
    clear hb D4 C4
    cases hq : predS g x.r.head with
    | true =>
      have HT := Lib.hid (show errL g x.l x.r = 10 from by rw [HS.out, hq]; rfl)
      clear hq
      go_wp2
      go_ret
      exact ⟨by rw [HT.out]; rfl, by rw [HB0.out]; exact HQ.out⟩
    | false =>
      have HT := Lib.hid (show errL g x.l x.r = 0 from by rw [HS.out, hq]; rfl)
      clear hq
      go_wp2
      go_ret
      exact ⟨by rw [HT.out]; rfl, by rw [HB0.out]; exact HQ.out⟩
end Go.Proofs.YtpncmdlbmnmahaaGreat

/- Steps through a region that only reads: split off RSm. -/
/- Steps through a region that only reads: what follows is shut in a structure, so that nothing unfolds it. -/
namespace Go.Proofs.YtpncmdlbmnmahaaGreat
set_option linter.unusedVariables false
set_option linter.unusedSimpArgs false
open Go.RowKit Go.Sort
/-- The rest of the lexical walk, shut. -/
structure WQ (P : Program) (ops : Array Oper) (C : World → Prop) (Q : Act → Prop) (l : List Oper) (a : Act) : Prop where
  out : wpQuiet P ops C Q l a
section
variable {P : Program} {ops : Array Oper} {C : World → Prop} {Q : Act → Prop} {a : Act} {o : Oper} {rest : List Oper}
theorem WQ.nil (h : Q a) : WQ P ops C Q [] a := ⟨wpQuiet_nil h⟩
theorem WQ.skip (hw : Region.wanted o (yielded ops a.tmps) = false) (h : WQ P ops C Q rest (a.put o.dst undef)) : WQ P ops C Q (o :: rest) a := by
  refine ⟨?_⟩
  unfold wpQuiet
  rw [hw]
  exact h.out
theorem WQ.two {v : Value} (hw : Region.wanted o (yielded ops a.tmps) = true) (h : ∀ w, C w → o.quietAt P a C w v) (hr : WQ P ops C Q rest (a.put o.dst v)) : WQ P ops C Q (o :: rest) a := by
  refine ⟨?_⟩
  unfold wpQuiet
  rw [hw]
  exact ⟨v, h, hr.out⟩
end
theorem wp_region_wq {P : Program} {id : Nat} {Q : Exit → Act → World → Prop} {a : Act} {w : World} {l : List Oper} (hm : P.follows .mixedOrders = true) (hB : Region.lexB .any l.toArray = true)
    (h : WQ P l.toArray (fun w' => ∃ p : Regrown, w' = grow (redrawn w p.d) p.os) (fun a' => ∀ w', (∃ p : Regrown, w' = grow (redrawn w p.d) p.os) → Q .normal a' w') l a) : (Code.region id l.toArray true).wp P Q a w :=
  wp_region_quiet_below hm hB h.out
end Go.Proofs.YtpncmdlbmnmahaaGreat

/- Contracts of the document's Exact and Check of clauses. -/
namespace Go.Proofs.YtpncmdlbmnmahaaGreat
set_option linter.unusedVariables false
set_option linter.unusedSimpArgs false
open Go.RowKit
def Ck10I (g : Sg) (P : List LV) (w : World) (i : Value) (wr : World) : Prop := ∃ k : Nat, k ≤ P.length ∧ i = .int .i64 k ∧ errs g (t3s P) = errs g (t3s (P.drop k)) ∧ Below w.heap.size w wr
theorem errs_drop {g : Sg} {P : List LV} {k : Nat} {x : LV} (h : P[k]? = some x) : errs g (t3s (P.drop k)) = if errL g x.l x.r ≠ 0 then errL g x.l x.r else errs g (t3s (P.drop (k + 1))) := by
  obtain ⟨hkl, hke⟩ := List.getElem?_eq_some_iff.1 h
  rw [List.drop_eq_getElem_cons hkl, hke]
  rfl
set_option maxRecDepth 100000 in
set_option maxHeartbeats 4000000 in
theorem check10_any (g : Sg) (P : List LV) (hsz : ∀ x ∈ P, x.sz) (n₀ : Nat) (ga : Option Addr) (gc : Nat) (a : Option Addr) (c : Nat) (w : World) (hn : n₀ ≤ w.heap.size) (hG : IsSg n₀ w g ga gc) (hP : IsCl n₀ w P a c) :
    Calls Tryz.prog 25 #[.slice ga g.length gc, .slice a P.length c] w fun e w' => e = .returned (.int .i64 (errC g (t3s P))) ∧ Below w.heap.size w w' := by
  have hlc : P.length ≤ c ∧ c ≤ maxLen := ⟨hP.1, hP.2.1⟩
  unfold maxLen at hlc
  obtain ⟨hl1, hl2⟩ := hlc
  have HSZ := Lib.hid hsz
  have HP := Lib.hid (hP.mono hn)
  have HG := Lib.hid (hG.mono hn)
  clear hP hG hsz
  go_enter Tryz.func25, Tryz.ntmps25
  go_wp2_with fail
  refine (r7Right_any g w.heap.size ga gc w (Nat.le_refl _) HG.out).mono ?_
  rintro e w2 ⟨rfl, hb⟩
  have HB2 := Lib.hid hb
  have hbz2 := hb.size
  clear hb
  by_cases hr : rightG g = true
  case neg =>
    have HE := Lib.hid (show errC g (t3s P) = 1 from by unfold errC; rw [if_neg hr])
    rw [show rightG g = false from by simpa using hr]
    clear hr
    go_wp2
    go_ret
    exact ⟨by rw [HE.out]; rfl, HB2.out⟩
  have HR := Lib.hid hr
  rw [hr]
  clear hr
  by_cases hl : 32 < P.length
  · have HE := Lib.hid (show errC g (t3s P) = 2 from by unfold errC; rw [if_pos HR.out, if_pos (by simpa using hl)])
    have hl' : 32 < (P.length : Int) := by omega
    go_wp2
    go_ret
    exact ⟨by rw [HE.out]; rfl, HB2.out⟩
  have HE := Lib.hid (show errC g (t3s P) = errs g (t3s P) from by unfold errC; rw [if_pos HR.out, if_neg (by simpa using hl)])
  have hl' : decide (32 < (P.length : Int)) = false := decide_eq_false (by omega)
  go_wp2
  go_loopw [5, 6] (fun i _ wr => Ck10I g P w i wr) (fun i _ _ => P.length - (intOf i).toNat)
  case atStart => exact ⟨0, Nat.zero_le _, rfl, rfl, HB2.out⟩
  case round =>
    obtain ⟨k, hk, rfl, he, hB⟩ := hrel
    have HB := Lib.hid hB
    have hbz := hB.size
    have HED := Lib.hid he
    clear hB he
    by_cases hlt : k < P.length
    · obtain ⟨b, o, x, rfl, hb, hx, ⟨a0, a1, a2, a3, a4⟩, hxl⟩ := (HP.out.below HB.out).elem (i := k) hlt
      have hsx := HSZ.out x (List.mem_of_getElem? hx)
      have CK := Lib.hid (rLitCheck_any g x hsx wr.heap.size ga gc wr (Nat.le_refl _) ((HG.out.below HB.out).mono hbz) (hxl.mono hbz))
      have HX := Lib.hid (HED.out.trans (errs_drop hx))
      have hk0 : (0 : Int) ≤ (k : Int) := Int.natCast_nonneg _
      have hk1 : (k : Int) < (P.length : Int) := by omega
      clear hx hxl
      go_wp2_with fail
      refine CK.out.mono ?_
      rintro e w3 ⟨rfl, hb3⟩
      have HB3 := Lib.hid (HB.out.trans (hb3.mono hbz))
      clear hb3 a0 a1 a2 a3 a4
      by_cases h : errL g x.l x.r = 0
      · have H := Lib.hid h
        rw [h]
        clear h
        go_wp2
        go_roundw
        case rel => exact ⟨k + 1, by omega, by go_num, by rw [HX.out, if_neg (fun e => e H.out)], HB3.out⟩
        case measure => simp [intOf]; omega
      · have HF := Lib.hid (show errC g (t3s P) = errL g x.l x.r from by rw [HE.out, HX.out, if_pos h])
        obtain ⟨m, hm⟩ : ∃ m, errL g x.l x.r = m := ⟨_, rfl⟩
        rw [hm] at h HF ⊢
        have h2 : (m != 0) = true := by simpa using h
        clear h hm
        go_wp2
        go_ret
        exact ⟨by rw [HF.out]; rfl, HB3.out⟩
    · obtain rfl : k = P.length := by omega
      have HF := Lib.hid (show errC g (t3s P) = 0 from by rw [HE.out, HED.out, List.drop_of_length_le (Nat.le_refl _)]; rfl)
      go_wp2
      go_ret
      exact ⟨by rw [HF.out]; rfl, HB.out⟩
end Go.Proofs.YtpncmdlbmnmahaaGreat
