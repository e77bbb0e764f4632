/- QDc: joined of R7c, Wp0, R8, R8b. -/
import Derived.Test.YtbdabdjpgmnejaaGreatQBo
import Derived.Test.YtbdabdjpgmnejaaGreatQDa
import Derived.Test.YtbdabdjpgmnejaaGreatQBj
import Derived.Test.YtbdabdjpgmnejaaGreatQBg
import Derived.Test.YtbdabdjpgmnejaaGreatQBi
import Derived.Test.YtbdabdjpgmnejaaGreatQDb
import Derived.Test.YtbdabdjpgmnejaaGreatQBq
import Derived.Test.YtbdabdjpgmnejaaGreatQBn
import Derived.Deep.RegionHeld3
import Derived.Deep.CutRange
import Derived.Test.YtbdabdjpgmnejaaGreatQBc
/- Contracts of the document's answer: weight, Weight, Count (layer 7). -/
namespace Go.Proofs.YtbdabdjpgmnejaaGreat
set_option linter.unusedVariables false
set_option linter.unusedSimpArgs false
open Go.RowKit

def WtI (g : Sg) (t : T) (B : Nat) (w1 : World) (n i : Value) (wr : World) : Prop := ∃ k : Nat, k ≤ t.args.length ∧ i = .int .i64 k ∧ n = .int .i64 (wo g t.head + wtL g (t.args.take k)) ∧ Below B w1 wr
theorem wtL_bounds {g : Sg} (hr : rightG g = true) {t : T} (ht : OkT g t) (k : Nat) : 0 ≤ wtL g (t.args.take k) ∧ wtL g (t.args.take k) ≤ 400000 := by
  have hh : ∀ x ∈ T.hdsL (t.args.take k), 1 ≤ wo g x ∧ wo g x ≤ 1000 := fun x hx => by
    refine wo_bound hr (ht.heads x ?_)
    rw [T.hds_eq]
    refine List.mem_cons_of_mem _ ?_
    have h := hdsL_append (t.args.take k) (t.args.drop k)
    rw [List.take_append_drop] at h
    rw [h]
    exact List.mem_append_left _ hx
  have h1 : 0 ≤ wtL g (t.args.take k) := by rw [← sumA_hdsL]; exact sumA_nonneg (fun x hx => by have := hh x hx; omega)
  refine ⟨h1, ?_⟩
  have h2 := wtL_append g (t.args.take k) (t.args.drop k)
  rw [List.take_append_drop] at h2
  have h3 : 0 ≤ wtL g (t.args.drop k) := by
    rw [← sumA_hdsL]
    refine sumA_nonneg (fun x hx => ?_)
    have h := hdsL_append (t.args.take k) (t.args.drop k)
    rw [List.take_append_drop] at h
    have := wo_bound hr (ht.heads x (by rw [T.hds_eq]; refine List.mem_cons_of_mem _ ?_; rw [h]; exact List.mem_append_right _ hx))
    omega
  have h4 := wtT_eq g t
  have h5 : wtT g t ≤ 400000 := by
    have hb := sumA_bound (f := wo g) (L := t.hds) (fun x hx => by have := wo_bound hr (ht.heads x hx); omega)
    rw [sumA_hds, T.hds_length] at hb
    have := (check_ok ht.1).1
    omega
  have h6 := wo_bound hr (ht.heads t.head (by rw [T.hds_eq]; simp))
  omega

set_option maxRecDepth 100000 in
set_option maxHeartbeats 4000000 in
theorem r7weight_any (g : Sg) (hr : rightG g = true) : ∀ (N : Nat) (t : T), t.size ≤ N → OkT g t → ∀ (n₀ : Nat) (ga : Option Addr) (gc : Nat) (a : Option Addr) (c : Nat) (w : World), n₀ ≤ w.heap.size → IsSg n₀ w g ga gc → IsArgs n₀ w t.args a c →
    Calls Tryz.prog 181 #[.slice ga g.length gc, tm t.head a t.args.length c] w fun e w' => e = .returned (.int .i64 (wtT g t)) ∧ Below w.heap.size w w' := by
  intro N
  induction N with
  | zero => intro t ht; have := T.size_pos t; omega
  | succ N ih =>
    intro t ht hok n₀ ga gc a c w hn hG hA
    have IH := Lib.hid ih
    clear ih
    have hlc : t.args.length ≤ c ∧ c ≤ maxLen := ⟨hA.1, hA.2.1⟩
    have hlg : g.length ≤ gc ∧ gc ≤ maxLen := ⟨hG.1, hG.2.1⟩
    unfold maxLen at hlc hlg
    obtain ⟨hl1, hl2⟩ := hlc
    obtain ⟨hl3, hl4⟩ := hlg
    have HS := Lib.hid (show ∀ s ∈ t.args, s.size ≤ N from fun s hs => by
      obtain ⟨i, hi⟩ := List.getElem?_of_mem hs
      have h1 := T.size_lt_of_mem hi
      have h2 := T.size_eq t
      omega)
    have HOK := Lib.hid (fun s (hs : s ∈ t.args) => hok.arg hs)
    have HWB := Lib.hid (fun k => wtL_bounds hr hok k)
    have hin := hok.heads t.head (by rw [T.hds_eq]; simp)
    have hwb := wo_bound hr hin
    have HWE := Lib.hid (wtT_eq g t)
    have HA := Lib.hid hA
    have HG := Lib.hid hG
    have hck := check_ok hok.1
    clear hA hG
    obtain ⟨W1, hW1⟩ : ∃ W1, w.alloc (tmCells t.head a t.args.length c) = W1 := ⟨_, rfl⟩
    have HF := Lib.hid (show Below w.heap.size w W1 from by rw [← hW1]; exact (Below.refl _ w).alloc (Nat.le_refl _) _)
    have hs1 : W1.heap.size = w.heap.size + 1 := by rw [← hW1]; simp
    have ht0 : W1.cell? ⟨w.heap.size, 0, none⟩ = some (.int .i64 t.head) := by rw [← hW1]; simp [go_sem]
    have ht1 : W1.cell? ⟨w.heap.size, 1, none⟩ = some (.slice a t.args.length c) := by rw [← hW1]; simp [go_sem]
    by_cases q1 : t.head < 0
    · have HD := Lib.hid (show wtT g t = 1 from by rw [wtT_eq, good_leaf hck.2.2 q1]; unfold wo; rw [if_pos q1]; rfl)
      clear hok hin hck
      go_enter Tryz.func181, Tryz.ntmps181
      go_wp2
      go_ret
      exact ⟨by rw [HD.out]; rfl, HF.out⟩
    have hlen : t.head.toNat < g.length := by rcases hin with h | h; omega; exact h
    obtain ⟨b, o, x, rfl, hbn, hs, hxw, hc0, hc1, hc2, hc3⟩ := HG.out.elem (i := t.head.toNat) hlen
    have hk0 : (0 : Int) ≤ t.head := by omega
    have hk1 : t.head < (g.length : Int) := by omega
    have hwx : wo g t.head = x.wt := by unfold wo; rw [if_neg q1, hs]
    have hbw : b < w.heap.size := by omega
    have hx1 : W1.cell? ⟨b, o + t.head.toNat * 4 + 2, none⟩ = some (.int .i64 x.wt) := (HF.out.cell (p := ⟨b, _, none⟩) hbw).trans hc2
    have HWX := Lib.hid hwx
    rw [hwx] at hwb
    clear hs hxw hc0 hc1 hc2 hc3 hok hck hwx
    go_enter Tryz.func181, Tryz.ntmps181
    go_wp2
    try rw [hW1]
    clear hW1
    go_loopw [5, 6] (fun n i wr => WtI g t (w.heap.size + 1) W1 n i wr) (fun _ i _ => t.args.length - (intOf i).toNat)
    case atStart => exact ⟨0, Nat.zero_le _, rfl, by rw [HWX.out]; simp [wtL], Below.refl _ _⟩
    case round =>
      obtain ⟨k, hk, rfl, rfl, hB⟩ := hrel
      have HB := Lib.hid hB
      have hbz := hB.size
      have hv1 : wr.cell? ⟨w.heap.size, 1, none⟩ = some (.slice a t.args.length c) := (hB.cell (p := ⟨w.heap.size, 1, none⟩) (by simp)).trans ht1
      have HBW := Lib.hid (show Below w.heap.size w wr from HF.out.trans (hB.mono (by omega)))
      clear hB hx1 ht0 ht1
      rw [HWX.out]
      have hkb := HWB.out k
      by_cases hlt : k < t.args.length
      · obtain ⟨b', o', s, a', c', rfl, hbn', hs, hswf, hc1, hc2, hA'⟩ := (HA.out.below (HBW.out.mono hn)).elem (i := k) hlt
        have hk2 : (0 : Int) ≤ (k : Int) := Int.natCast_nonneg _
        have hk3 : (k : Int) < (t.args.length : Int) := by omega
        have HSK := Lib.hid hs
        have CK := Lib.hid (IH.out s (HS.out s (List.mem_of_getElem? hs)) (HOK.out s (List.mem_of_getElem? hs)) n₀ (some ⟨b, o, none⟩) gc a' c' wr (by omega) (HG.out.below (HBW.out.mono hn)) hA')
        have hkb1 := HWB.out (k + 1)
        rw [wtL_take hs] at hkb1
        have HST := Lib.hid (wtL_take (g := g) hs)
        generalize wtL g (t.args.take k) = zk at *
        clear hs hswf hA'
        go_wp2_with fail
        refine CK.out.mono ?_
        rintro e w2 ⟨rfl, hb2⟩
        have HB2 := Lib.hid (HB.out.trans (hb2.mono (by omega)))
        clear hb2 CK
        generalize wtT g s = zs at *
        go_wp2
        go_roundw
        case rel => exact ⟨k + 1, by omega, by go_num, by rw [HST.out, HWX.out, Int.add_assoc], HB2.out⟩
        case measure => simp [intOf]; omega
      · obtain rfl : k = t.args.length := by omega
        have HE := Lib.hid (show wtT g t = x.wt + wtL g (t.args.take t.args.length) from by rw [HWE.out, HWX.out, List.take_length])
        go_wp2
        go_ret
        exact ⟨by rw [HE.out]; rfl, HBW.out⟩

set_option maxRecDepth 100000 in
set_option maxHeartbeats 2000000 in
theorem r7Weight_any (g : Sg) (t : T) (hsz : t.size ≤ 1000000000000) (n₀ : Nat) (ga : Option Addr) (gc : Nat) (a : Option Addr) (c : Nat) (w : World) (hn : n₀ ≤ w.heap.size) (hG : IsSg n₀ w g ga gc) (hA : IsArgs n₀ w t.args a c) :
    Calls Tryz.prog 174 #[.slice ga g.length gc, tm t.head a t.args.length c] w fun e w' => e = .returned (weightV g t) ∧ Below w.heap.size w w' := by
  obtain ⟨W1, hW1⟩ : ∃ W1, w.alloc (tmCells t.head a t.args.length c) = W1 := ⟨_, rfl⟩
  have L1 := Lib.hid (show ∀ W, Below W1.heap.size W1 W → W.cell? ⟨w.heap.size, 0, none⟩ = some (.int .i64 t.head) ∧ W.cell? ⟨w.heap.size, 1, none⟩ = some (.slice a t.args.length c) ∧ IsSg n₀ W g ga gc ∧ IsArgs n₀ W t.args a c ∧ Below w.heap.size w W ∧ n₀ ≤ W.heap.size from fun W hW => by
    have h0 : Below w.heap.size w W1 := by rw [← hW1]; exact (Below.refl _ w).alloc (Nat.le_refl _) _
    have h := h0.trans (hW.mono h0.size)
    exact ⟨(hW.cell (p := ⟨w.heap.size, 0, none⟩) (by rw [← hW1]; simp)).trans (by rw [← hW1]; simp [go_sem]), (hW.cell (p := ⟨w.heap.size, 1, none⟩) (by rw [← hW1]; simp)).trans (by rw [← hW1]; simp [go_sem]), hG.below (h.mono hn), hA.below (h.mono hn), h, Nat.le_trans hn h.size⟩)
  obtain ⟨c0, c1, _, _, _, _⟩ := L1.out W1 (Below.refl _ _)
  clear hG hA
  go_enter Tryz.func174, Tryz.ntmps174
  go_wp2_with fail
  try rw [hW1]
  obtain ⟨_, _, hG1, hA1, _, hn1⟩ := L1.out W1 (Below.refl _ _)
  refine (r7Term_any g t hsz n₀ ga gc a c W1 hn1 hG1 hA1).mono ?_
  rintro e w2 ⟨rfl, hb2⟩
  have B2 := Lib.hid hb2
  clear hb2 hG1 hA1 hW1 c0 c1
  obtain ⟨c0, c1, hG2, hA2, hb, hn2⟩ := L1.out w2 B2.out
  by_cases qe : errT g t = 0
  · have hwv : weightV g t = .tuple #[.int .i64 (wtT g t), .int .i64 0] := by unfold weightV; rw [if_pos qe]
    have HWV := Lib.hid hwv
    obtain ⟨hr, _⟩ := errT_ok qe
    have CW := Lib.hid (r7weight_any g hr t.size t (Nat.le_refl _) ((okT_iff hr).1 qe) n₀ ga gc a c w2 hn2 hG2 hA2)
    rw [qe]
    clear hG2 hA2 hb hwv hr qe
    go_wp2_with fail
    refine CW.out.mono ?_
    rintro e w3 ⟨rfl, hb3⟩
    have HB := Lib.hid (L1.out w3 (B2.out.trans (hb3.mono B2.out.size))).2.2.2.2.1
    clear hb3
    go_wp2
    refine bodyPost_ret (v := .tuple #[.int .i64 (wtT g t), .int .i64 0]) (by simp [results, Tryz.results174, go_sem]) rfl ?_
    exact ⟨by rw [HWV.out], HB.out⟩
  · obtain ⟨k, hk⟩ : ∃ k, errT g t = k := ⟨_, rfl⟩
    have hk0 : (k != 0) = true := by rw [← hk]; simpa using qe
    have HWV := Lib.hid (show weightV g t = .tuple #[.int .i64 0, .int .i64 k] from by unfold weightV; rw [if_neg qe, hk])
    have HB := Lib.hid hb
    rw [hk]
    clear hG2 hA2 hb hk qe
    go_wp2
    refine bodyPost_ret (v := .tuple #[.int .i64 0, .int .i64 k]) (by simp [results, Tryz.results174, go_sem]) rfl ?_
    exact ⟨by rw [HWV.out], HB.out⟩

def CoI (t : T) (h : Int) (B : Nat) (w1 : World) (n i : Value) (wr : World) : Prop := ∃ k : Nat, k ≤ t.args.length ∧ i = .int .i64 k ∧ n = .int .i64 (((if t.head = h then 1 else 0) + (T.hdsL (t.args.take k)).count h : Nat) : Int) ∧ Below B w1 wr
theorem count_hds (t : T) (h : Int) : t.hds.count h = (if t.head = h then 1 else 0) + (T.hdsL t.args).count h := by
  rw [T.hds_eq, List.count_cons]
  by_cases e : t.head = h
  · simp [e]; omega
  · simp [e]

set_option maxRecDepth 100000 in
set_option maxHeartbeats 4000000 in
theorem r7Count_any (v : Int) (hv0 : 0 ≤ v) (hv1 : v ≤ 1000000) : ∀ (N : Nat) (t : T), t.size ≤ N → t.size ≤ 1000000000000 → ∀ (n₀ : Nat) (a : Option Addr) (c : Nat) (w : World), n₀ ≤ w.heap.size → IsArgs n₀ w t.args a c →
    Calls Tryz.prog 180 #[tm t.head a t.args.length c, .int .i64 v] w fun e w' => e = .returned (.int .i64 ((t.hds.count (-1 - v) : Nat) : Int)) ∧ Below w.heap.size w w' := by
  intro N
  induction N with
  | zero => intro t ht; have := T.size_pos t; omega
  | succ N ih =>
    intro t ht hbig n₀ a c w hn hA
    have IH := Lib.hid ih
    clear ih
    have hlc : t.args.length ≤ c ∧ c ≤ maxLen := ⟨hA.1, hA.2.1⟩
    unfold maxLen at hlc
    obtain ⟨hl1, hl2⟩ := hlc
    have HS := Lib.hid (show ∀ s ∈ t.args, s.size ≤ N ∧ s.size ≤ 1000000000000 from fun s hs => by
      obtain ⟨i, hi⟩ := List.getElem?_of_mem hs
      have h1 := T.size_lt_of_mem hi
      have h2 := T.size_eq t
      exact ⟨by omega, by omega⟩)
    have HCB := Lib.hid (fun k => show (T.hdsL (t.args.take k)).count (-1 - v) ≤ 1000000000000 from by
      have h1 : (T.hdsL (t.args.take k)).count (-1 - v) ≤ (T.hdsL (t.args.take k)).length := List.count_le_length
      rw [T.hdsL_length] at h1
      have h3 := T.sizes_append (t.args.take k) (t.args.drop k)
      rw [List.take_append_drop] at h3
      have h4 := T.size_eq t
      omega)
    have HCH := Lib.hid (count_hds t (-1 - v))
    have HA := Lib.hid hA
    clear hA
    obtain ⟨W1, hW1⟩ : ∃ W1, w.alloc (tmCells t.head a t.args.length c) = W1 := ⟨_, rfl⟩
    have HF := Lib.hid (show Below w.heap.size w W1 from by rw [← hW1]; exact (Below.refl _ w).alloc (Nat.le_refl _) _)
    have hs1 : W1.heap.size = w.heap.size + 1 := by rw [← hW1]; simp
    have ht0 : W1.cell? ⟨w.heap.size, 0, none⟩ = some (.int .i64 t.head) := by rw [← hW1]; simp [go_sem]
    have ht1 : W1.cell? ⟨w.heap.size, 1, none⟩ = some (.slice a t.args.length c) := by rw [← hW1]; simp [go_sem]
    obtain ⟨u, hu⟩ : ∃ u : Nat, (if t.head = -1 - v then 1 else 0) = u := ⟨_, rfl⟩
    have hu1 : u ≤ 1 := by rw [← hu]; split <;> omega
    have HU := Lib.hid hu
    have hcase : (decide (t.head = -1 - v) = true ∧ (t.head == -1 - v) = true ∧ u = 1) ∨ (decide (t.head = -1 - v) = false ∧ (t.head == -1 - v) = false ∧ u = 0) := by
      by_cases e : t.head = -1 - v
      · exact .inl ⟨decide_eq_true e, by simpa using e, by rw [← hu, if_pos e]⟩
      · exact .inr ⟨decide_eq_false e, by simpa using e, by rw [← hu, if_neg e]⟩
    clear hu
    rcases hcase with ⟨e, e', rfl⟩ | ⟨e, e', rfl⟩
    all_goals
      go_enter Tryz.func180, Tryz.ntmps180
      go_wp2
      try rw [hW1]
      clear hW1
      go_loopw [5, 6] (fun n i wr => CoI t (-1 - v) (w.heap.size + 1) W1 n i wr) (fun _ i _ => t.args.length - (intOf i).toNat)
      case atStart => exact ⟨0, Nat.zero_le _, rfl, by rw [HU.out]; simp [T.hdsL], Below.refl _ _⟩
      case round =>
        obtain ⟨k, hk, rfl, rfl, hB⟩ := hrel
        have HB := Lib.hid hB
        have hbz := hB.size
        have hv1 : wr.cell? ⟨w.heap.size, 1, none⟩ = some (.slice a t.args.length c) := (hB.cell (p := ⟨w.heap.size, 1, none⟩) (by simp)).trans ht1
        have HBW := Lib.hid (show Below w.heap.size w wr from HF.out.trans (hB.mono (by omega)))
        clear hB ht0 ht1
        rw [HU.out]
        have hkb := HCB.out k
        by_cases hlt : k < t.args.length
        · obtain ⟨b', o', s, a', c', rfl, hbn', hs, hswf, hc1, hc2, hA'⟩ := (HA.out.below (HBW.out.mono hn)).elem (i := k) hlt
          have hk2 : (0 : Int) ≤ (k : Int) := Int.natCast_nonneg _
          have hk3 : (k : Int) < (t.args.length : Int) := by omega
          have CK := Lib.hid (IH.out s (HS.out s (List.mem_of_getElem? hs)).1 (HS.out s (List.mem_of_getElem? hs)).2 n₀ a' c' wr (by omega) hA')
          have hkb1 := HCB.out (k + 1)
          rw [hdsL_take hs, List.count_append] at hkb1
          have HST := Lib.hid (show (T.hdsL (t.args.take (k + 1))).count (-1 - v) = (T.hdsL (t.args.take k)).count (-1 - v) + s.hds.count (-1 - v) from by rw [hdsL_take hs, List.count_append])
          generalize (T.hdsL (t.args.take k)).count (-1 - v) = zk at *
          clear hs hswf hA'
          go_wp2_with fail
          refine CK.out.mono ?_
          rintro e w2 ⟨rfl, hb2⟩
          have HB2 := Lib.hid (HB.out.trans (hb2.mono (by omega)))
          clear hb2 CK
          generalize s.hds.count (-1 - v) = zs at *
          go_wp2
          go_roundw
          case rel => exact ⟨k + 1, by omega, by go_num, by rw [HST.out, HU.out]; exact congrArg (fun x : Int => Value.int .i64 x) (by omega), HB2.out⟩
          case measure => simp [intOf]; omega
        · obtain rfl : k = t.args.length := by omega
          have HE := Lib.hid (show ((t.hds.count (-1 - v) : Nat) : Int) = ((_ + (T.hdsL (t.args.take t.args.length)).count (-1 - v) : Nat) : Int) from by rw [HCH.out, HU.out, List.take_length])
          go_wp2
          go_ret
          exact ⟨by rw [HE.out]; rfl, HBW.out⟩

end Go.Proofs.YtbdabdjpgmnejaaGreat

/- Wp0: split off Wp1: variables of good terms are low. -/
namespace Go.Proofs.YtbdabdjpgmnejaaGreat
set_option linter.unusedVariables false
set_option linter.unusedSimpArgs false
open Go.RowKit

theorem vars_low {t : T} (hb : bad (T.subs 1 t) = false) : ∀ h ∈ t.hds, h < 0 → -1 - h ≤ 255 := by
  have aux : ∀ (N : Nat) (t : T), t.size ≤ N → bad (T.subs 1 t) = false → ∀ h ∈ t.hds, h < 0 → -1 - h ≤ 255 := by
    intro N
    induction N with
    | zero => intro t ht; have := T.size_pos t; omega
    | succ N ih =>
      intro t ht hb h hm hn
      rw [T.hds_eq] at hm
      rcases List.mem_cons.1 hm with rfl | hm
      · have := good_head hb
        simp [okB, hn] at this
        omega
      · have : ∃ s ∈ t.args, h ∈ s.hds := by
          clear ht ih hb
          generalize t.args = ts at hm
          induction ts with
          | nil => simp [T.hdsL] at hm
          | cons s ts ih2 =>
            rcases List.mem_append.1 hm with hm | hm
            · exact ⟨s, List.mem_cons_self .., hm⟩
            · obtain ⟨x, hx, hy⟩ := ih2 hm
              exact ⟨x, List.mem_cons_of_mem _ hx, hy⟩
        obtain ⟨s, hs, hsm⟩ := this
        obtain ⟨k, hk⟩ := List.getElem?_of_mem hs
        exact ih s (by have := size_mem hs; have := T.size_eq t; omega) (good_arg hb hk) h hsm hn
  exact aux t.size t (Nat.le_refl _) hb


end Go.Proofs.YtbdabdjpgmnejaaGreat

/- Contracts of the document's answer for terms compared (layer 8). -/
namespace Go.Proofs.YtbdabdjpgmnejaaGreat
set_option linter.unusedVariables false
set_option linter.unusedSimpArgs false
open Go.RowKit

theorem rv_isVars (t : T) : IsVars t.rv t := by rw [T.rv_eq]; exact isVars_vars t
theorem rv_le {t : T} (hb : bad (T.subs 1 t) = false) : ∀ v ∈ t.rv, 0 ≤ v ∧ v ≤ 255 := fun v hv => by
  obtain ⟨x, hx, h0, rfl⟩ := (rv_isVars t v).1 hv
  have := vars_low hb x hx h0
  omega
def OftI (a b : T) (w1 : World) (i : Value) (wr : World) : Prop := ∃ k : Nat, k ≤ b.rv.length ∧ i = .int .i64 k ∧ (∀ (j : Nat) (v : Int), j < k → b.rv[j]? = some v → b.hds.count (-1 - v) ≤ a.hds.count (-1 - v)) ∧ Below w1.heap.size w1 wr
theorem oftB_true {a b : T} (h : ∀ (j : Nat) (v : Int), j < b.rv.length → b.rv[j]? = some v → b.hds.count (-1 - v) ≤ a.hds.count (-1 - v)) : oftB a b = true := by
  rw [oft_iff, oft_vars (rv_isVars b)]
  intro v hv
  obtain ⟨j, hj⟩ := List.getElem?_of_mem hv
  exact h j v (List.getElem?_eq_some_iff.1 hj).1 hj
theorem oftB_false {a b : T} {j : Nat} {v : Int} (hv : b.rv[j]? = some v) (h : a.hds.count (-1 - v) < b.hds.count (-1 - v)) : oftB a b = false := by
  cases e : oftB a b with
  | false => rfl
  | true =>
    have := (oft_vars (rv_isVars b)).1 (oft_iff.1 e) v (List.mem_of_getElem? hv)
    omega

set_option maxRecDepth 100000 in
set_option maxHeartbeats 4000000 in
theorem often_any (a b : T) (hza : a.size ≤ 1000000000) (hzb : b.size ≤ 1000000000) (hbb : bad (T.subs 1 b) = false) (n₀ : Nat) (pa : Option Addr) (ca : Nat) (pb : Option Addr) (cb : Nat) (w : World) (hn : n₀ ≤ w.heap.size) (hbw : (Lit.int .i64 b.head).wf = true) (hA : IsArgs n₀ w a.args pa ca) (hB : IsArgs n₀ w b.args pb cb) :
    Calls Tryz.prog 173 #[tm a.head pa a.args.length ca, tm b.head pb b.args.length cb] w fun e w' => e = .returned (.bool (oftB a b)) ∧ Below w.heap.size w w' := by
  have HRV := Lib.hid (rv_le hbb)
  have HBW := Lib.hid hbw
  have hrl : b.rv.length ≤ 1000000000 := by have := T.rv_length b; omega
  have d0 := (((((Later.below (Below.refl _ w)).and (later_args (hB.mono hn))).and (later_args (hA.mono hn))).push (Below.refl _ _) a.head pa a.args.length ca).push (Below.refl _ _) b.head pb b.args.length cb)
  simp only [heap_alloc_size] at d0
  have D := Lib.hid d0
  clear hA hB d0 hbw
  have hcnt : ∀ (t : T) (v : Int), t.size ≤ 1000000000 → t.hds.count (-1 - v) ≤ 1000000000 := fun t v ht => Nat.le_trans List.count_le_length (by rw [T.hds_length]; exact ht)
  have HCA := Lib.hid (fun v => hcnt a v hza)
  have HCB := Lib.hid (fun v => hcnt b v hzb)
  clear hcnt
  go_enter Tryz.func173, Tryz.ntmps173
  go_wp2_with fail
  generalize (w.alloc (tmCells a.head pa a.args.length ca)).alloc (tmCells b.head pb b.args.length cb) = w1 at D ⊢
  generalize hb0 : w.heap.size = b0 at D ⊢
  have HB0 := Lib.hid hb0
  clear hb0
  refine (refVars_any b.size b (Nat.le_refl _) (by omega) w1.heap.size pb cb w1 (Nat.le_refl _) HBW.out D.out.now.2.2.2.1).mono ?_
  rintro e w2 ⟨av, cv, rfl, hI, _, hb⟩
  have hvl : b.rv.length ≤ cv ∧ cv ≤ maxLen := ⟨hI.1, hI.2.1⟩
  unfold maxLen at hvl
  obtain ⟨hvl1, hvl2⟩ := hvl
  have D2 := Lib.hid ((D.out.mv hb).and (later_is hI))
  clear hb hI D
  go_wp2
  go_loopw [6] (fun i wr => OftI a b w2 i wr) (fun i _ => b.rv.length - (intOf i).toNat)
  case atStart => exact ⟨0, Nat.zero_le _, rfl, fun j v hj => by omega, Below.refl _ _⟩
  case round =>
    obtain ⟨k, hk, rfl, hpre, hB⟩ := hrel
    have HPRE := Lib.hid hpre
    have D3 := Lib.hid (D2.out.mv hB)
    have HB := Lib.hid hB
    clear hpre hB
    by_cases hlt : k < b.rv.length
    · obtain ⟨bv, ov, v, rfl, hbn, hv, hcv⟩ := D3.out.now.1.elem (k := k) hlt
      have hk0 : (0 : Int) ≤ (k : Int) := Int.natCast_nonneg _
      have hk1 : (k : Int) < (b.rv.length : Int) := by omega
      obtain ⟨hv0, hv1⟩ := HRV.out v (List.mem_of_getElem? hv)
      have HV := Lib.hid hv
      have hca := HCA.out v
      have hcb := HCB.out v
      clear hv
      have KP := Lib.hid (show ∀ W, Below wr.heap.size wr W → (W.cell? ⟨b0, 0, none⟩ = some (.int .i64 a.head) ∧ W.cell? ⟨b0, 1, none⟩ = some (.slice pa a.args.length ca)) ∧ (W.cell? ⟨b0 + 1, 0, none⟩ = some (.int .i64 b.head) ∧ W.cell? ⟨b0 + 1, 1, none⟩ = some (.slice pb b.args.length cb)) ∧ W.cell? ⟨bv, ov + k, none⟩ = some (.int .i64 v) ∧ Below wr.heap.size wr W from fun W hW => by
        obtain ⟨_, ⟨y0, y1⟩, ⟨x0, x1⟩, _⟩ := D3.out W hW
        exact ⟨⟨x0, x1⟩, ⟨y0, y1⟩, (hW.cell (p := ⟨bv, _, none⟩) hbn).trans hcv, hW⟩)
      obtain ⟨⟨x0, x1⟩, ⟨y0, y1⟩, _⟩ := KP.out wr (Below.refl _ _)
      have CA := Lib.hid (fun (W : World) (hW : Below wr.heap.size wr W) => r7Count_any v hv0 (by omega) a.size a (Nat.le_refl _) (by omega) W.heap.size pa ca W (Nat.le_refl _) (D3.out W hW).2.2.2.1)
      have CB := Lib.hid (fun (W : World) (hW : Below wr.heap.size wr W) => r7Count_any v hv0 (by omega) b.size b (Nat.le_refl _) (by omega) W.heap.size pb cb W (Nat.le_refl _) (D3.out W hW).2.2.2.2.1)
      by_cases hq : a.hds.count (-1 - v) < b.hds.count (-1 - v)
      · have HE := Lib.hid (oftB_false HV.out hq)
        have hq' : ((a.hds.count (-1 - v) : Nat) : Int) < ((b.hds.count (-1 - v) : Nat) : Int) := by omega
        generalize a.hds.count (-1 - v) = na at *
        generalize b.hds.count (-1 - v) = nb at *
        go_wp2_with fail
        refine wp_region_noPanic ?_
        go_region_held3 (fun w' => (w'.cell? ⟨b0, 0, none⟩ = some (.int .i64 a.head) ∧ w'.cell? ⟨b0, 1, none⟩ = some (.slice pa a.args.length ca)) ∧ (w'.cell? ⟨b0 + 1, 0, none⟩ = some (.int .i64 b.head) ∧ w'.cell? ⟨b0 + 1, 1, none⟩ = some (.slice pb b.args.length cb)) ∧ w'.cell? ⟨bv, ov + k, none⟩ = some (.int .i64 v) ∧ Below wr.heap.size wr w')
          (first
            | exact KP.out _ (Below.refl _ _)
            | exact KP.out _ (Below.refl _ _).drew
            | exact KP.out _ hB)
          (first
            | (go_at_call 180; with_reducible refine (CA.out _ (‹_ ∧ _ ∧ _ ∧ Below wr.heap.size wr _›.2.2.2)).mono ?_; rintro e u1 ⟨rfl, hu⟩; have hB := bl_call (‹_ ∧ _ ∧ _ ∧ Below wr.heap.size wr _›.2.2.2) hu)
            | (go_at_call 180; with_reducible refine (CB.out _ (‹_ ∧ _ ∧ _ ∧ Below wr.heap.size wr _›.2.2.2)).mono ?_; rintro e u2 ⟨rfl, hu2⟩; have hB := bl_call (‹_ ∧ _ ∧ _ ∧ Below wr.heap.size wr _›.2.2.2) hu2; have hfin := hB))
        all_goals
          refine NoPanic.normal ?_
          have HQ := Lib.hid (D3.out _ hfin).2.2.2.2.2
          go_wp2
          go_ret
          exact ⟨by rw [HE.out]; rfl, by rw [HB0.out]; exact HQ.out⟩
      · have HLE := Lib.hid (show b.hds.count (-1 - v) ≤ a.hds.count (-1 - v) from by omega)
        have hq' : ¬ ((a.hds.count (-1 - v) : Nat) : Int) < ((b.hds.count (-1 - v) : Nat) : Int) := by omega
        have HST := Lib.hid (show ∀ (j : Nat) (z : Int), j < k + 1 → b.rv[j]? = some z → b.hds.count (-1 - z) ≤ a.hds.count (-1 - z) from fun j z hj hz => by
          by_cases e : j = k
          · subst e; rw [HV.out] at hz; obtain rfl := Option.some.inj hz; exact HLE.out
          · exact HPRE.out j z (by omega) hz)
        generalize a.hds.count (-1 - v) = na at *
        generalize b.hds.count (-1 - v) = nb at *
        go_wp2_with fail
        refine wp_region_noPanic ?_
        go_region_held3 (fun w' => (w'.cell? ⟨b0, 0, none⟩ = some (.int .i64 a.head) ∧ w'.cell? ⟨b0, 1, none⟩ = some (.slice pa a.args.length ca)) ∧ (w'.cell? ⟨b0 + 1, 0, none⟩ = some (.int .i64 b.head) ∧ w'.cell? ⟨b0 + 1, 1, none⟩ = some (.slice pb b.args.length cb)) ∧ w'.cell? ⟨bv, ov + k, none⟩ = some (.int .i64 v) ∧ Below wr.heap.size wr w')
          (first
            | exact KP.out _ (Below.refl _ _)
            | exact KP.out _ (Below.refl _ _).drew
            | exact KP.out _ hB)
          (first
            | (go_at_call 180; with_reducible refine (CA.out _ (‹_ ∧ _ ∧ _ ∧ Below wr.heap.size wr _›.2.2.2)).mono ?_; rintro e u1 ⟨rfl, hu⟩; have hB := bl_call (‹_ ∧ _ ∧ _ ∧ Below wr.heap.size wr _›.2.2.2) hu)
            | (go_at_call 180; with_reducible refine (CB.out _ (‹_ ∧ _ ∧ _ ∧ Below wr.heap.size wr _›.2.2.2)).mono ?_; rintro e u2 ⟨rfl, hu2⟩; have hB := bl_call (‹_ ∧ _ ∧ _ ∧ Below wr.heap.size wr _›.2.2.2) hu2; have hfin := hB))
        all_goals
          refine NoPanic.normal ?_
          have HFIN := Lib.hid (HB.out.trans (hfin.mono HB.out.size))
          go_wp2
          go_roundw
          case rel => exact ⟨k + 1, by omega, by go_num, HST.out, HFIN.out⟩
          case measure => simp [intOf]; omega
    · obtain rfl : k = b.rv.length := by omega
      have HE := Lib.hid (oftB_true HPRE.out)
      have HQ := Lib.hid D3.out.now.2.2.2.2.2
      go_wp2
      go_ret
      exact ⟨by rw [HE.out]; rfl, by rw [HB0.out]; exact HQ.out⟩

end Go.Proofs.YtbdabdjpgmnejaaGreat

/- Contracts of the document's answer for two terms compared (layer 8): Greater, Stand, Compare. -/
namespace Go.Proofs.YtbdabdjpgmnejaaGreat
set_option linter.unusedVariables false
set_option linter.unusedSimpArgs false
open Go.RowKit

theorem gtK_weight {g : Sg} {a b : T} (ho : oftB a b = true) (hw : wtT g a ≠ wtT g b) : gtK g a b = decide (wtT g b < wtT g a) := by
  rw [gtK_eq, ho, if_neg hw]; rfl
theorem gtK_often {g : Sg} {a b : T} (ho : oftB a b = false) : gtK g a b = false := by rw [gtK_eq, ho]; rfl
theorem gtK_neg {g : Sg} {a b : T} (hw : wtT g a = wtT g b) (hn : a.head < 0 ∨ b.head < 0) : gtK g a b = false := by
  rw [gtK_eq, if_pos hw]
  rcases hn with h | h <;> simp [h]
theorem gtK_head {g : Sg} {a b : T} (ho : oftB a b = true) (hw : wtT g a = wtT g b) (h1 : ¬ a.head < 0) (h2 : ¬ b.head < 0) (hh : a.head ≠ b.head) : gtK g a b = decide (b.head < a.head) := by
  rw [gtK_eq, ho, if_pos hw, if_neg hh]; simp [h1, h2]
theorem gtK_args {g : Sg} {a b : T} (ho : oftB a b = true) (hw : wtT g a = wtT g b) (h1 : ¬ a.head < 0) (h2 : ¬ b.head < 0) (hh : a.head = b.head) : gtK g a b = gtL g a.args b.args := by
  rw [gtK_eq, ho, if_pos hw, if_pos hh]; simp [h1, h2]
theorem weightV_ok {g : Sg} (hr : rightG g = true) {t : T} (h : OkT g t) : weightV g t = .tuple #[.int .i64 (wtT g t), .int .i64 0] := by
  unfold weightV; rw [if_pos ((okT_iff hr).2 h)]
def GrI (a b : T) (w1 : World) (i : Value) (wr : World) : Prop := ∃ k : Nat, k ≤ a.args.length ∧ i = .int .i64 k ∧ a.args.take k = b.args.take k ∧ Below w1.heap.size w1 wr
theorem take_snoc8 {a b : List T} {k : Nat} {s : T} (h : a.take k = b.take k) (h1 : a[k]? = some s) (h2 : b[k]? = some s) : a.take (k + 1) = b.take (k + 1) := by
  rw [List.take_add_one, List.take_add_one, h, h1, h2]

set_option maxRecDepth 100000 in
set_option maxHeartbeats 8000000 in
theorem greater_any (g : Sg) (hr : rightG g = true) : ∀ (N : Nat) (a b : T), a.size ≤ N → OkT g a → OkT g b → ∀ (n₀ : Nat) (ga : Option Addr) (gc : Nat) (pa : Option Addr) (ca : Nat) (pb : Option Addr) (cb : Nat) (w : World), n₀ ≤ w.heap.size → IsSg n₀ w g ga gc →
    (Lit.int .i64 a.head).wf = true → (Lit.int .i64 b.head).wf = true → IsArgs n₀ w a.args pa ca → IsArgs n₀ w b.args pb cb →
    Calls Tryz.prog 161 #[.slice ga g.length gc, tm a.head pa a.args.length ca, tm b.head pb b.args.length cb] w fun e w' => e = .returned (.bool (gtK g a b)) ∧ Below w.heap.size w w' := by
  intro N
  induction N with
  | zero => intro a b ha; have := T.size_pos a; omega
  | succ N ih =>
    intro a b ha hoa hob n₀ ga gc pa ca pb cb w hn hG haw hbw hA hB
    have IH := Lib.hid ih
    clear ih
    have HS := Lib.hid (show ∀ s ∈ a.args, s.size ≤ N from fun s hs => by
      obtain ⟨i, hi⟩ := List.getElem?_of_mem hs
      have h1 := T.size_lt_of_mem hi
      have h2 := T.size_eq a
      omega)
    have HOA := Lib.hid hoa
    have HOB := Lib.hid hob
    have HAW := Lib.hid haw
    have HBW := Lib.hid hbw
    have hca := check_ok hoa.1
    have hcb := check_ok hob.1
    have hsa := hca.1
    have hsb := hcb.1
    have HBB := Lib.hid hcb.2.2
    have hlc : a.args.length ≤ ca ∧ ca ≤ maxLen := ⟨hA.1, hA.2.1⟩
    have hld : b.args.length ≤ cb ∧ cb ≤ maxLen := ⟨hB.1, hB.2.1⟩
    unfold maxLen at hlc hld
    obtain ⟨hl1, hl2⟩ := hlc
    obtain ⟨hl3, hl4⟩ := hld
    have d0 := ((((((Later.below (Below.refl _ w)).and (later_sg (hG.mono hn))).and (later_args (hB.mono hn))).and (later_args (hA.mono hn))).push (Below.refl _ _) a.head pa a.args.length ca).push (Below.refl _ _) b.head pb b.args.length cb)
    simp only [heap_alloc_size] at d0
    have D := Lib.hid d0
    have hWA := weightV_ok hr hoa
    have hWB := weightV_ok hr hob
    clear hA hB hG d0 haw hbw hoa hob hca hcb
    go_enter Tryz.func161, Tryz.ntmps161
    go_wp2_with fail
    generalize (w.alloc (tmCells a.head pa a.args.length ca)).alloc (tmCells b.head pb b.args.length cb) = w1 at D ⊢
    generalize hb0 : w.heap.size = b0 at D ⊢
    have HB0 := Lib.hid hb0
    clear hb0
    refine (often_any a b (by omega) (by omega) HBB.out w1.heap.size pa ca pb cb w1 (Nat.le_refl _) HBW.out D.out.now.2.2.1 D.out.now.2.2.2.1).mono ?_
    rintro e w2 ⟨rfl, hb⟩
    have D2 := Lib.hid (D.out.mv hb)
    clear hb D
    cases ho : oftB a b with
    | false =>
      have HE := Lib.hid (gtK_often (g := g) ho)
      have HQ := Lib.hid D2.out.now.2.2.2.2.2
      clear D2 ho hWA hWB
      go_wp2
      go_ret
      exact ⟨by rw [HE.out]; rfl, by rw [HB0.out]; exact HQ.out⟩
    | true =>
    have HO := Lib.hid ho
    obtain ⟨⟨y0, y1⟩, ⟨x0, x1⟩, _⟩ := D2.out.now
    go_wp2_with fail
    clear y0 y1 x0 x1
    refine (r7Weight_any g a (by omega) w2.heap.size ga gc pa ca w2 (Nat.le_refl _) D2.out.now.2.2.2.2.1 D2.out.now.2.2.1).mono ?_
    rw [hWA]
    rintro e w3 ⟨rfl, hb⟩
    have D3 := Lib.hid (D2.out.mv hb)
    clear hb D2 ho
    obtain ⟨⟨y0, y1⟩, ⟨x0, x1⟩, _⟩ := D3.out.now
    go_wp2_with fail
    clear y0 y1 x0 x1
    refine (r7Weight_any g b (by omega) w3.heap.size ga gc pb cb w3 (Nat.le_refl _) D3.out.now.2.2.2.2.1 D3.out.now.2.2.2.1).mono ?_
    rw [hWB]
    rintro e w4 ⟨rfl, hb⟩
    have D4 := Lib.hid (D3.out.mv hb)
    clear hb D3 hWA hWB
    obtain ⟨⟨y0, y1⟩, ⟨x0, x1⟩, _⟩ := D4.out.now
    by_cases hw : wtT g a = wtT g b
    case neg =>
      have HE := Lib.hid (gtK_weight HO.out hw)
      have HQ := Lib.hid D4.out.now.2.2.2.2.2
      generalize wtT g a = za at *
      generalize wtT g b = zb at *
      have hne : (za != zb) = true := by simpa using hw
      clear D4
      go_wp2
      go_ret
      exact ⟨by rw [HE.out]; first | rfl | simp, by rw [HB0.out]; exact HQ.out⟩
    have HW := Lib.hid hw
    have hbe : (wtT g a != wtT g b) = false := by simpa using hw
    clear hw
    by_cases h1 : a.head < 0
    · have HE := Lib.hid (gtK_neg (b := b) HW.out (.inl h1))
      have HQ := Lib.hid D4.out.now.2.2.2.2.2
      clear D4
      go_wp2
      go_ret
      exact ⟨by rw [HE.out]; rfl, by rw [HB0.out]; exact HQ.out⟩
    by_cases h2 : b.head < 0
    · have HE := Lib.hid (gtK_neg (a := a) HW.out (.inr h2))
      have HQ := Lib.hid D4.out.now.2.2.2.2.2
      clear D4
      go_wp2
      go_ret
      exact ⟨by rw [HE.out]; rfl, by rw [HB0.out]; exact HQ.out⟩
    by_cases hh : a.head = b.head
    case neg =>
      have HE := Lib.hid (gtK_head HO.out HW.out h1 h2 hh)
      have HQ := Lib.hid D4.out.now.2.2.2.2.2
      have hne : (a.head != b.head) = true := by simpa using hh
      clear D4
      go_wp2
      go_ret
      exact ⟨by rw [HE.out]; first | rfl | simp, by rw [HB0.out]; exact HQ.out⟩
    have HE := Lib.hid (gtK_args HO.out HW.out h1 h2 hh)
    have hlen := fits_arity HOA.out.2.1 HOB.out.2.1 (by omega) hh
    have HLEN := Lib.hid hlen
    have hbh : (a.head != b.head) = false := by simpa using hh
    have hsz4 := D4.out.now.2.2.2.2.2
    clear hh
    go_wp2
    clear y0 y1 x0 x1
    go_loopw [11] (fun i wr => GrI a b w4 i wr) (fun i _ => a.args.length - (intOf i).toNat)
    case atStart => exact ⟨0, Nat.zero_le _, rfl, by simp, Below.refl _ _⟩
    case round =>
      obtain ⟨k, hk, rfl, hpre, hBw⟩ := hrel
      have HPRE := Lib.hid hpre
      have HBW4 := Lib.hid hBw
      have D5 := Lib.hid (D4.out.mv hBw)
      clear hpre hBw
      obtain ⟨⟨y0, y1⟩, ⟨x0, x1⟩, hAr, hBr, _⟩ := D5.out.now
      by_cases hlt : k < a.args.length
      · obtain ⟨b1, o1, s, a1, c1, hp1, hbn1, hs, hswf, e0, e1, hA1⟩ := hAr.elem (i := k) hlt
        obtain ⟨b2, o2, t, a2, c2, hp2, hbn2, ht, htwf, f0, f1, hB1⟩ := hBr.elem (i := k) (by omega)
        subst hp1 hp2
        have hk0 : (0 : Int) ≤ (k : Int) := Int.natCast_nonneg _
        have hk1 : (k : Int) < (a.args.length : Int) := by omega
        have hk2 : (k : Int) < (b.args.length : Int) := by omega
        have HSA := Lib.hid hs
        have HSB := Lib.hid ht
        have hos := HOA.out.arg (List.mem_of_getElem? hs)
        have hot := HOB.out.arg (List.mem_of_getElem? ht)
        have hss := (check_ok hos.1).1
        have hst := (check_ok hot.1).1
        have KP := Lib.hid (show ∀ W, Below wr.heap.size wr W → (W.cell? ⟨b0, 0, none⟩ = some (.int .i64 a.head) ∧ W.cell? ⟨b0, 1, none⟩ = some (.slice (some ⟨b1, o1, none⟩) a.args.length ca)) ∧ (W.cell? ⟨b0 + 1, 0, none⟩ = some (.int .i64 b.head) ∧ W.cell? ⟨b0 + 1, 1, none⟩ = some (.slice (some ⟨b2, o2, none⟩) b.args.length cb)) ∧ (W.cell? ⟨b1, o1 + k * 2, none⟩ = some (.int .i64 s.head) ∧ W.cell? ⟨b1, o1 + k * 2 + 1, none⟩ = some (.slice a1 s.args.length c1)) ∧ (W.cell? ⟨b2, o2 + k * 2, none⟩ = some (.int .i64 t.head) ∧ W.cell? ⟨b2, o2 + k * 2 + 1, none⟩ = some (.slice a2 t.args.length c2)) ∧ Below wr.heap.size wr W from fun W hW => by
          obtain ⟨⟨y0, y1⟩, ⟨x0, x1⟩, _⟩ := D5.out W hW
          exact ⟨⟨x0, x1⟩, ⟨y0, y1⟩, ⟨(hW.cell (p := ⟨b1, _, none⟩) hbn1).trans e0, (hW.cell (p := ⟨b1, _, none⟩) hbn1).trans e1⟩, ⟨(hW.cell (p := ⟨b2, _, none⟩) hbn2).trans f0, (hW.cell (p := ⟨b2, _, none⟩) hbn2).trans f1⟩, hW⟩)
        have CS := Lib.hid (fun (W : World) (hW : Below wr.heap.size wr W) => refSame_any s t (by omega) (by omega) wr.heap.size a1 c1 a2 c2 W hW.size (hA1.below hW) (hB1.below hW))
        have CG := Lib.hid (fun (W : World) (hW : Below wr.heap.size wr W) => IH.out s t (HS.out s (List.mem_of_getElem? hs)) hos hot W.heap.size ga gc a1 c1 a2 c2 W (Nat.le_refl _) (D5.out W hW).2.2.2.2.1 hswf htwf ((hA1.below hW).mono hW.size) ((hB1.below hW).mono hW.size))
        clear hs ht hswf htwf hA1 hB1 hAr hBr hos hot
        by_cases hst2 : s = t
        · have HST := Lib.hid (take_snoc8 HPRE.out HSA.out (by rw [HSB.out, hst2]))
          have hcm : decide (T.cmp s t = 0) = true := decide_eq_true (T.cmp_zero.2 hst2)
          rw [hcm] at CS
          clear CG hcm hst2
          go_wp2_with fail
          refine wp_region_noPanic ?_
          go_region_held3 (fun w' => (w'.cell? ⟨b0, 0, none⟩ = some (.int .i64 a.head) ∧ w'.cell? ⟨b0, 1, none⟩ = some (.slice (some ⟨b1, o1, none⟩) a.args.length ca)) ∧ (w'.cell? ⟨b0 + 1, 0, none⟩ = some (.int .i64 b.head) ∧ w'.cell? ⟨b0 + 1, 1, none⟩ = some (.slice (some ⟨b2, o2, none⟩) b.args.length cb)) ∧ (w'.cell? ⟨b1, o1 + k * 2, none⟩ = some (.int .i64 s.head) ∧ w'.cell? ⟨b1, o1 + k * 2 + 1, none⟩ = some (.slice a1 s.args.length c1)) ∧ (w'.cell? ⟨b2, o2 + k * 2, none⟩ = some (.int .i64 t.head) ∧ w'.cell? ⟨b2, o2 + k * 2 + 1, none⟩ = some (.slice a2 t.args.length c2)) ∧ Below wr.heap.size wr w')
                (first
                  | exact KP.out _ (Below.refl _ _)
                  | exact KP.out _ (Below.refl _ _).drew
                  | exact KP.out _ hB)
                (first
                  | (go_at_call 76; with_reducible refine (CS.out _ (‹_ ∧ _ ∧ _ ∧ _ ∧ Below wr.heap.size wr _›.2.2.2.2)).mono ?_; rintro e u1 ⟨rfl, hu⟩; have hB := bl_call (‹_ ∧ _ ∧ _ ∧ _ ∧ Below wr.heap.size wr _›.2.2.2.2) hu; have hfin := hB))
          all_goals
            refine NoPanic.normal ?_
            have HFIN := Lib.hid (HBW4.out.trans (hfin.mono HBW4.out.size))
            go_wp2
            go_roundw
            case rel => exact ⟨k + 1, by omega, by go_num, HST.out, HFIN.out⟩
            case measure => simp [intOf]; omega
        · have HR := Lib.hid (show gtK g a b = gtK g s t from by rw [HE.out]; exact gtL_at HPRE.out HLEN.out HSA.out HSB.out hst2)
          have hcm : decide (T.cmp s t = 0) = false := decide_eq_false (fun e => hst2 (T.cmp_zero.1 e))
          rw [hcm] at CS
          clear hcm
          go_wp2_with fail
          refine wp_region_noPanic ?_
          go_region_held3 (fun w' => (w'.cell? ⟨b0, 0, none⟩ = some (.int .i64 a.head) ∧ w'.cell? ⟨b0, 1, none⟩ = some (.slice (some ⟨b1, o1, none⟩) a.args.length ca)) ∧ (w'.cell? ⟨b0 + 1, 0, none⟩ = some (.int .i64 b.head) ∧ w'.cell? ⟨b0 + 1, 1, none⟩ = some (.slice (some ⟨b2, o2, none⟩) b.args.length cb)) ∧ (w'.cell? ⟨b1, o1 + k * 2, none⟩ = some (.int .i64 s.head) ∧ w'.cell? ⟨b1, o1 + k * 2 + 1, none⟩ = some (.slice a1 s.args.length c1)) ∧ (w'.cell? ⟨b2, o2 + k * 2, none⟩ = some (.int .i64 t.head) ∧ w'.cell? ⟨b2, o2 + k * 2 + 1, none⟩ = some (.slice a2 t.args.length c2)) ∧ Below wr.heap.size wr w')
                (first
                  | exact KP.out _ (Below.refl _ _)
                  | exact KP.out _ (Below.refl _ _).drew
                  | exact KP.out _ hB)
                (first
                  | (go_at_call 76; with_reducible refine (CS.out _ (‹_ ∧ _ ∧ _ ∧ _ ∧ Below wr.heap.size wr _›.2.2.2.2)).mono ?_; rintro e u1 ⟨rfl, hu⟩; have hB := bl_call (‹_ ∧ _ ∧ _ ∧ _ ∧ Below wr.heap.size wr _›.2.2.2.2) hu; have hfin := hB))
          all_goals
            refine NoPanic.normal ?_
            obtain ⟨⟨p0, p1⟩, ⟨p2, p3⟩, ⟨p4, p5⟩, ⟨p6, p7⟩, _⟩ := KP.out _ hfin
            go_wp2_with fail
            refine wp_region_noPanic ?_
            go_region_held3 (fun w' => (w'.cell? ⟨b0, 0, none⟩ = some (.int .i64 a.head) ∧ w'.cell? ⟨b0, 1, none⟩ = some (.slice (some ⟨b1, o1, none⟩) a.args.length ca)) ∧ (w'.cell? ⟨b0 + 1, 0, none⟩ = some (.int .i64 b.head) ∧ w'.cell? ⟨b0 + 1, 1, none⟩ = some (.slice (some ⟨b2, o2, none⟩) b.args.length cb)) ∧ (w'.cell? ⟨b1, o1 + k * 2, none⟩ = some (.int .i64 s.head) ∧ w'.cell? ⟨b1, o1 + k * 2 + 1, none⟩ = some (.slice a1 s.args.length c1)) ∧ (w'.cell? ⟨b2, o2 + k * 2, none⟩ = some (.int .i64 t.head) ∧ w'.cell? ⟨b2, o2 + k * 2 + 1, none⟩ = some (.slice a2 t.args.length c2)) ∧ Below wr.heap.size wr w')
                  (first
                    | exact KP.out _ hfin
                    | exact KP.out _ hfin.drew
                    | exact KP.out _ hB2)
                  (first
                    | (go_at_call 161; with_reducible refine (CG.out _ (‹_ ∧ _ ∧ _ ∧ _ ∧ Below wr.heap.size wr _›.2.2.2.2)).mono ?_; rintro e u2 ⟨rfl, hu2⟩; have hB2 := bl_call (‹_ ∧ _ ∧ _ ∧ _ ∧ Below wr.heap.size wr _›.2.2.2.2) hu2; have hfin2 := hB2))
            all_goals
              refine NoPanic.normal ?_
              have HQ := Lib.hid (D5.out _ hfin2).2.2.2.2.2
              go_wp2
              go_ret
              exact ⟨by rw [HR.out]; rfl, by rw [HB0.out]; exact HQ.out⟩
      · obtain rfl : k = a.args.length := by omega
        have HR := Lib.hid (show gtK g a b = false from by
          rw [HE.out]
          exact gtL_end HPRE.out HLEN.out)
        have HQ := Lib.hid D5.out.now.2.2.2.2.2
        clear hAr hBr
        go_wp2
        go_ret
        exact ⟨by rw [HR.out]; rfl, by rw [HB0.out]; exact HQ.out⟩

end Go.Proofs.YtbdabdjpgmnejaaGreat
