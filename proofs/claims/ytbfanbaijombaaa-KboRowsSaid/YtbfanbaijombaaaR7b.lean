/- Contracts of the document's answer for terms over a signature (layer 7). -/
import Derived.Test.YtbfanbaijombaaaQ3a
namespace Go.Proofs.Ytbfanbaijombaaa
set_option linter.unusedVariables false
set_option linter.unusedSimpArgs false
open Go.RowKit

theorem fitsT_miss {g : Sg} {t : T} (h0 : 0 ≤ t.head) (h : armOk g t.head t.args.length = false) : fitsT g t = false := by
  rw [fitsT_eq, h]; simp; omega
theorem fitsT_hit {g : Sg} {t : T} (h0 : 0 ≤ t.head) (h : armOk g t.head t.args.length = true) : fitsT g t = fitsL g t.args := by
  rw [fitsT_eq, h]; simp; omega
def KnI (g : Sg) (t : T) (B : Nat) (w1 : World) (i : Value) (wr : World) : Prop := ∃ k : Nat, k ≤ t.args.length ∧ i = .int .i64 k ∧ fitsL g (t.args.take k) = true ∧ Below B w1 wr

set_option maxRecDepth 100000 in
set_option maxHeartbeats 4000000 in
theorem r7known_any (g : Sg) : ∀ (N : Nat) (t : T), t.size ≤ N → ∀ (n₀ : Nat) (ga : Option Addr) (gc : Nat) (a : Option Addr) (c : Nat) (w : World), n₀ ≤ w.heap.size → IsSg n₀ w g ga gc → IsArgs n₀ w t.args a c →
    Calls Try.prog 51 #[.slice ga g.length gc, tm t.head a t.args.length c] w fun e w' => e = .returned (.bool (fitsT g t)) ∧ Below w.heap.size w w' := by
  intro N
  induction N with
  | zero => intro t ht; have := T.size_pos t; omega
  | succ N ih =>
    intro t ht n₀ ga gc a c w hn hG hA
    have IH := Lib.hid ih
    clear ih
    have hlc : t.args.length ≤ c ∧ c ≤ maxLen := ⟨hA.1, hA.2.1⟩
    have hlg : g.length ≤ gc ∧ gc ≤ maxLen := ⟨hG.1, hG.2.1⟩
    unfold maxLen at hlc hlg
    obtain ⟨hl1, hl2⟩ := hlc
    obtain ⟨hl3, hl4⟩ := hlg
    have HS := Lib.hid (show ∀ s ∈ t.args, s.size ≤ N from fun s hs => by
      obtain ⟨i, hi⟩ := List.getElem?_of_mem hs
      have h1 := T.size_lt_of_mem hi
      have h2 := T.size_eq t
      omega)
    have HA := Lib.hid hA
    have HG := Lib.hid hG
    clear hA hG
    obtain ⟨W1, hW1⟩ : ∃ W1, w.alloc (tmCells t.head a t.args.length c) = W1 := ⟨_, rfl⟩
    have HF := Lib.hid (show Below w.heap.size w W1 from by rw [← hW1]; exact (Below.refl _ w).alloc (Nat.le_refl _) _)
    have hs1 : W1.heap.size = w.heap.size + 1 := by rw [← hW1]; simp
    have ht0 : W1.cell? ⟨w.heap.size, 0, none⟩ = some (.int .i64 t.head) := by rw [← hW1]; simp [go_sem]
    have ht1 : W1.cell? ⟨w.heap.size, 1, none⟩ = some (.slice a t.args.length c) := by rw [← hW1]; simp [go_sem]
    by_cases q1 : t.head < 0
    · have HD := Lib.hid (show fitsT g t = true from by rw [fitsT_eq]; simp [q1])
      go_enter Try.func51, Try.ntmps51
      go_wp2
      go_ret
      exact ⟨by rw [HD.out]; rfl, HF.out⟩
    by_cases q2 : (g.length : Int) ≤ t.head
    · have HD := Lib.hid (fitsT_miss (g := g) (t := t) (by omega) (by unfold armOk; rw [List.getElem?_eq_none (by omega)]; simp; omega))
      go_enter Try.func51, Try.ntmps51
      go_wp2
      clear hW1
      go_quiet (fail)
      go_wp2
      go_ret
      exact ⟨by rw [HD.out]; rfl, HF.out.trans ((bl_drew' _ _).mono HF.out.size)⟩
    obtain ⟨b, o, x, rfl, hbn, hs, hxw, hc0, hc1, hc2, hc3⟩ := HG.out.elem (i := t.head.toNat) (by omega)
    have hk0 : (0 : Int) ≤ t.head := by omega
    have hk1 : t.head < (g.length : Int) := by omega
    have HAR := Lib.hid (show armOk g t.head t.args.length = decide ((t.args.length : Int) = x.ar) from by unfold armOk; rw [hs]; simp; omega)
    have hbw : b < w.heap.size := by omega
    have hx1 : W1.cell? ⟨b, o + t.head.toNat * 4 + 1, none⟩ = some (.int .i64 x.ar) := (HF.out.cell (p := ⟨b, _, none⟩) hbw).trans hc1
    clear hs hxw hc0 hc1 hc2 hc3
    by_cases q3 : (t.args.length : Int) = x.ar
    · have HD := Lib.hid (fitsT_hit (g := g) (t := t) hk0 (by rw [HAR.out]; exact decide_eq_true q3))
      have q3' : ((t.args.length : Int) != x.ar) = false := by simpa using q3
      go_enter Try.func51, Try.ntmps51
      go_wp2
      clear hW1
      go_quiet (fail)
      go_wp2
      go_loopw [5] (fun i wr => KnI g t (w.heap.size + 1) W1 i wr) (fun i _ => t.args.length - (intOf i).toNat)
      case atStart => exact ⟨0, Nat.zero_le _, rfl, rfl, (bl_drew' _ _).mono (by omega)⟩
      case round =>
        obtain ⟨k, hk, rfl, hpre, hB⟩ := hrel
        have HPRE := Lib.hid hpre
        have HB := Lib.hid hB
        have hbz := hB.size
        have hv1 : wr.cell? ⟨w.heap.size, 1, none⟩ = some (.slice a t.args.length c) := (hB.cell (p := ⟨w.heap.size, 1, none⟩) (by simp)).trans ht1
        have HBW := Lib.hid (show Below w.heap.size w wr from HF.out.trans (hB.mono (by omega)))
        clear hpre hB hx1 ht0 ht1
        by_cases hlt : k < t.args.length
        · obtain ⟨b', o', s, a', c', rfl, hbn', hs, hswf, hc1, hc2, hA'⟩ := (HA.out.below (HBW.out.mono hn)).elem (i := k) hlt
          have hk2 : (0 : Int) ≤ (k : Int) := Int.natCast_nonneg _
          have hk3 : (k : Int) < (t.args.length : Int) := by omega
          have HSK := Lib.hid hs
          have CK := Lib.hid (IH.out s (HS.out s (List.mem_of_getElem? hs)) n₀ (some ⟨b, o, none⟩) gc a' c' wr (by omega) (HG.out.below (HBW.out.mono hn)) hA')
          clear hs hswf hA'
          go_wp2_with fail
          refine CK.out.mono ?_
          rintro e w2 ⟨rfl, hb2⟩
          have HB2 := Lib.hid (HB.out.trans (hb2.mono (by omega)))
          have HBW2 := Lib.hid (HBW.out.trans (hb2.mono HBW.out.size))
          clear hb2
          cases hf : fitsT g s with
          | true =>
            have HT := Lib.hid (show fitsL g (t.args.take (k + 1)) = true from by rw [fitsL_take HSK.out, HPRE.out, hf]; rfl)
            clear hf
            go_wp2
            go_roundw
            case rel => exact ⟨k + 1, by omega, by go_num, HT.out, HB2.out⟩
            case measure => simp [intOf]; omega
          | false =>
            have HE := Lib.hid (show fitsT g t = false from by rw [HD.out]; exact fitsL_bad HSK.out hf)
            clear hf
            go_wp2
            go_ret
            exact ⟨by rw [HE.out]; rfl, HBW2.out⟩
        · obtain rfl : k = t.args.length := by omega
          have HE := Lib.hid (show fitsT g t = true from by rw [HD.out]; have := HPRE.out; rwa [List.take_length] at this)
          go_wp2
          go_ret
          exact ⟨by rw [HE.out]; rfl, HBW.out⟩
    · have HD := Lib.hid (fitsT_miss (g := g) (t := t) hk0 (by rw [HAR.out]; exact decide_eq_false q3))
      have q3' : ((t.args.length : Int) != x.ar) = true := by simpa using q3
      go_enter Try.func51, Try.ntmps51
      go_wp2
      clear hW1
      go_quiet (fail)
      go_wp2
      go_ret
      exact ⟨by rw [HD.out]; rfl, HF.out.trans ((bl_drew' _ _).mono HF.out.size)⟩

theorem r7Truth_any (g : Sg) (t : T) (n₀ : Nat) (ga : Option Addr) (gc : Nat) (a : Option Addr) (c : Nat) (w : World) (hn : n₀ ≤ w.heap.size) (hG : IsSg n₀ w g ga gc) (hA : IsArgs n₀ w t.args a c) :
    Calls Try.prog 75 #[.slice ga g.length gc, tm t.head a t.args.length c] w fun e w' => e = .returned (.bool (predS g t.head)) ∧ Below w.heap.size w w' := by
  have hlg : g.length ≤ gc ∧ gc ≤ maxLen := ⟨hG.1, hG.2.1⟩
  unfold maxLen at hlg
  obtain ⟨hl3, hl4⟩ := hlg
  have HF := Lib.hid (show Below w.heap.size w (w.alloc (tmCells t.head a t.args.length c)) from (Below.refl _ w).alloc (Nat.le_refl _) _)
  by_cases q1 : t.head < 0
  · have HD := Lib.hid (show predS g t.head = false from by unfold predS; simp [show ¬ 0 ≤ t.head from by omega])
    clear hG hA
    go_enter Try.func75, Try.ntmps75
    go_wp2
    go_ret
    exact ⟨by rw [HD.out]; rfl, HF.out⟩
  by_cases q2 : t.head < (g.length : Int)
  · obtain ⟨b, o, x, rfl, hbn, hs, hxw, hc0, hc1, hc2, hc3⟩ := hG.elem (i := t.head.toNat) (by omega)
    have hk0 : (0 : Int) ≤ t.head := by omega
    have HD := Lib.hid (show predS g t.head = x.tr from by unfold predS; rw [hs]; simp [hk0])
    have hbw : b < w.heap.size := by omega
    clear hG hA hs hxw hc0 hc1 hc2
    go_enter Try.func75, Try.ntmps75
    go_wp2
    go_ret
    exact ⟨by rw [HD.out]; rfl, HF.out⟩
  · have HD := Lib.hid (show predS g t.head = false from by unfold predS; rw [List.getElem?_eq_none (by omega)]; simp)
    clear hG hA
    go_enter Try.func75, Try.ntmps75
    go_wp2
    go_ret
    exact ⟨by rw [HD.out]; rfl, HF.out⟩

def ThI (g : Sg) (t : T) (B : Nat) (w1 : World) (i : Value) (wr : World) : Prop := ∃ k : Nat, k ≤ t.args.length ∧ i = .int .i64 k ∧ predL g (t.args.take k) = false ∧ Below B w1 wr

set_option maxRecDepth 100000 in
set_option maxHeartbeats 4000000 in
theorem r7things_any (g : Sg) : ∀ (N : Nat) (t : T), t.size ≤ N → ∀ (n₀ : Nat) (ga : Option Addr) (gc : Nat) (a : Option Addr) (c : Nat) (w : World), n₀ ≤ w.heap.size → IsSg n₀ w g ga gc → IsArgs n₀ w t.args a c →
    Calls Try.prog 52 #[.slice ga g.length gc, tm t.head a t.args.length c] w fun e w' => e = .returned (.bool (!predL g t.args)) ∧ Below w.heap.size w w' := by
  intro N
  induction N with
  | zero => intro t ht; have := T.size_pos t; omega
  | succ N ih =>
    intro t ht n₀ ga gc a c w hn hG hA
    have IH := Lib.hid ih
    clear ih
    have hlc : t.args.length ≤ c ∧ c ≤ maxLen := ⟨hA.1, hA.2.1⟩
    unfold maxLen at hlc
    obtain ⟨hl1, hl2⟩ := hlc
    have HS := Lib.hid (show ∀ s ∈ t.args, s.size ≤ N from fun s hs => by
      obtain ⟨i, hi⟩ := List.getElem?_of_mem hs
      have h1 := T.size_lt_of_mem hi
      have h2 := T.size_eq t
      omega)
    have HA := Lib.hid hA
    have HG := Lib.hid hG
    clear hA hG
    go_enter Try.func52, Try.ntmps52
    go_wp2
    obtain ⟨W1, hW1⟩ : ∃ W1, w.alloc (tmCells t.head a t.args.length c) = W1 := ⟨_, rfl⟩
    have HF := Lib.hid (show Below w.heap.size w W1 from by rw [← hW1]; exact (Below.refl _ w).alloc (Nat.le_refl _) _)
    have hs1 : W1.heap.size = w.heap.size + 1 := by rw [← hW1]; simp
    have ht1 : W1.cell? ⟨w.heap.size, 1, none⟩ = some (.slice a t.args.length c) := by rw [← hW1]; simp [go_sem]
    rw [hW1]
    clear hW1
    go_loopw [5] (fun i wr => ThI g t (w.heap.size + 1) W1 i wr) (fun i _ => t.args.length - (intOf i).toNat)
    case atStart => exact ⟨0, Nat.zero_le _, rfl, rfl, Below.refl _ _⟩
    case round =>
      obtain ⟨k, hk, rfl, hpre, hB⟩ := hrel
      have HPRE := Lib.hid hpre
      have HB := Lib.hid hB
      have hbz := hB.size
      have hv1 : wr.cell? ⟨w.heap.size, 1, none⟩ = some (.slice a t.args.length c) := (hB.cell (p := ⟨w.heap.size, 1, none⟩) (by simp)).trans ht1
      have HBW := Lib.hid (show Below w.heap.size w wr from HF.out.trans (hB.mono (by omega)))
      clear hpre hB ht1
      by_cases hlt : k < t.args.length
      · obtain ⟨b', o', s, a', c', rfl, hbn', hs, hswf, hc1, hc2, hA'⟩ := (HA.out.below (HBW.out.mono hn)).elem (i := k) hlt
        have hk2 : (0 : Int) ≤ (k : Int) := Int.natCast_nonneg _
        have hk3 : (k : Int) < (t.args.length : Int) := by omega
        have HSK := Lib.hid hs
        have CT := Lib.hid (r7Truth_any g s n₀ ga gc a' c' wr (by omega) (HG.out.below (HBW.out.mono hn)) hA')
        have CK := Lib.hid (fun (W : World) (hW : Below wr.heap.size wr W) => IH.out s (HS.out s (List.mem_of_getElem? hs)) n₀ ga gc a' c' W (by have := hW.size; omega) (HG.out.below ((HBW.out.trans (hW.mono HBW.out.size)).mono hn)) (hA'.below (hW.mono (by omega))))
        have hbw' : b' < wr.heap.size := by omega
        clear hs hswf hA'
        go_wp2_with fail
        refine CT.out.mono ?_
        rintro e w2 ⟨rfl, hb2⟩
        have HB2 := Lib.hid (HB.out.trans (hb2.mono (by omega)))
        have HBW2 := Lib.hid (HBW.out.trans (hb2.mono HBW.out.size))
        have hb2z := hb2.size
        cases hp : predS g s.head with
        | true =>
          have HE := Lib.hid (show predL g t.args = true from predL_hit HSK.out (by rw [predT_eq, hp]; rfl))
          clear hp hb2
          go_wp2
          go_ret
          exact ⟨by rw [HE.out]; rfl, HBW2.out⟩
        | false =>
          have hv2 : w2.cell? ⟨w.heap.size, 1, none⟩ = some (.slice (some ⟨b', o', none⟩) t.args.length c) := (hb2.cell (p := ⟨w.heap.size, 1, none⟩) (by show w.heap.size < _; omega)).trans hv1
          have hd1 := (hb2.cell (p := ⟨b', o' + k * 2, none⟩) hbw').trans hc1
          have hd2 := (hb2.cell (p := ⟨b', o' + k * 2 + 1, none⟩) hbw').trans hc2
          have CK2 := Lib.hid (CK.out w2 hb2)
          have HPS := Lib.hid hp
          clear hb2 hv1 hc1 hc2 hp CK CT
          go_wp2_with fail
          refine CK2.out.mono ?_
          rintro e w3 ⟨rfl, hb3⟩
          have HB3 := Lib.hid (HB2.out.trans (hb3.mono (by omega)))
          have HBW3 := Lib.hid (HBW2.out.trans (hb3.mono HBW2.out.size))
          clear hb3
          cases hf : predL g s.args with
          | false =>
            have HT := Lib.hid (show predL g (t.args.take (k + 1)) = false from by rw [predL_take HSK.out, HPRE.out, predT_eq, HPS.out, hf]; rfl)
            clear hf
            go_wp2
            go_roundw
            case rel => exact ⟨k + 1, by omega, by go_num, HT.out, HB3.out⟩
            case measure => simp [intOf]; omega
          | true =>
            have HE := Lib.hid (show predL g t.args = true from predL_hit HSK.out (by rw [predT_eq, hf]; simp))
            clear hf
            go_wp2
            go_ret
            exact ⟨by rw [HE.out]; rfl, HBW3.out⟩
      · obtain rfl : k = t.args.length := by omega
        have HE := Lib.hid (show predL g t.args = false from by have := HPRE.out; rwa [List.take_length] at this)
        go_wp2
        go_ret
        exact ⟨by rw [HE.out]; rfl, HBW.out⟩

end Go.Proofs.Ytbfanbaijombaaa
