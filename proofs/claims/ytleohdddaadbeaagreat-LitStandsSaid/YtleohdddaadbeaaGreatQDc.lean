/- QDc: joined of St0, R7c. -/
import Derived.Test.YtleohdddaadbeaaGreatQBl
import Derived.Test.YtleohdddaadbeaaGreatR7t
import Derived.Test.YtleohdddaadbeaaGreatKsc
/- Contract of the reference's In (and, by import, what stays when terms are put). -/
namespace Go.Proofs.YtleohdddaadbeaaGreat
set_option linter.unusedVariables false
set_option linter.unusedSimpArgs false
open Go.RowKit

def InI (n : Int) (zs : List Int) (w : World) (i : Value) (wr : World) : Prop := ∃ k : Nat, k ≤ zs.length ∧ i = .int .i64 k ∧ (∀ j, j < k → zs[j]? ≠ some n) ∧ wr = w

set_option maxRecDepth 100000 in
theorem in_any (n : Int) (zs : List Int) (n₀ : Nat) (a : Option Addr) (c : Nat) (w : World) (hn : n₀ ≤ w.heap.size) (hZ : IsIs n₀ w zs a c) :
    Calls Tryz.prog 83 #[.int .i64 n, .slice a zs.length c] w fun e w' => e = .returned (.bool (decide (n ∈ zs))) ∧ Below w.heap.size w w' := by
  have hl : zs.length ≤ c ∧ c ≤ maxLen := ⟨hZ.1, hZ.2.1⟩
  unfold maxLen at hl
  obtain ⟨hl1, hl2⟩ := hl
  have HZ := Lib.hid hZ
  clear hZ
  go_enter Tryz.func83, Tryz.ntmps83
  go_wp2
  go_loopw [5] (fun i wr => InI n zs w i wr) (fun i _ => zs.length - (intOf i).toNat)
  case atStart => exact ⟨0, Nat.zero_le _, rfl, fun j h => by omega, rfl⟩
  case round =>
    obtain ⟨k, hk, rfl, hno, rfl⟩ := hrel
    have HN := Lib.hid hno
    clear hno
    by_cases hlt : k < zs.length
    · obtain ⟨b, o, z, rfl, hbn, hz, hcz⟩ := HZ.out.elem (k := k) hlt
      have hk0 : (0 : Int) ≤ (k : Int) := Int.natCast_nonneg _
      have hk1 : (k : Int) < (zs.length : Int) := by omega
      have HZK := Lib.hid hz
      clear hz
      by_cases q : z = n
      · subst q
        have hd : decide (z ∈ zs) = true := by simpa using List.mem_of_getElem? HZK.out
        go_wp2
        go_ret
        exact ⟨by first | (rw [hd]; rfl) | rfl, Below.refl _ _⟩
      · have q' : (z == n) = false := by simpa using q
        go_wp2
        go_roundw
        case rel =>
          refine ⟨k + 1, by omega, by go_num, fun j hj => ?_, rfl⟩
          by_cases e : j = k
          · subst e
            rw [HZK.out]
            intro e
            exact q (Option.some.inj e)
          · exact HN.out j (by omega)
        case measure => simp [intOf]; omega
    · have hd : decide (n ∈ zs) = false := by
        simp only [decide_eq_false_iff_not]
        intro hm
        obtain ⟨j, hj⟩ := List.getElem?_of_mem hm
        exact HN.out j (by have := (List.getElem?_eq_some_iff.1 hj).1; omega) hj
      go_wp2
      go_ret
      exact ⟨by first | (rw [hd]; rfl) | rfl, Below.refl _ _⟩

end Go.Proofs.YtleohdddaadbeaaGreat


/- Contracts of the document's answer: weight, Weight, Count (layer 7). -/
namespace Go.Proofs.YtleohdddaadbeaaGreat
set_option linter.unusedVariables false
set_option linter.unusedSimpArgs false
open Go.RowKit

def WtI (g : Sg) (t : T) (B : Nat) (w1 : World) (n i : Value) (wr : World) : Prop := ∃ k : Nat, k ≤ t.args.length ∧ i = .int .i64 k ∧ n = .int .i64 (wo g t.head + wtL g (t.args.take k)) ∧ Below B w1 wr
theorem wtL_bounds {g : Sg} (hr : rightG g = true) {t : T} (ht : OkT g t) (k : Nat) : 0 ≤ wtL g (t.args.take k) ∧ wtL g (t.args.take k) ≤ 400000 := by
  have hh : ∀ x ∈ T.hdsL (t.args.take k), 1 ≤ wo g x ∧ wo g x ≤ 1000 := fun x hx => by
    refine wo_bound hr (ht.heads x ?_)
    rw [T.hds_eq]
    refine List.mem_cons_of_mem _ ?_
    have h := hdsL_append (t.args.take k) (t.args.drop k)
    rw [List.take_append_drop] at h
    rw [h]
    exact List.mem_append_left _ hx
  have h1 : 0 ≤ wtL g (t.args.take k) := by rw [← sumA_hdsL]; exact sumA_nonneg (fun x hx => by have := hh x hx; omega)
  refine ⟨h1, ?_⟩
  have h2 := wtL_append g (t.args.take k) (t.args.drop k)
  rw [List.take_append_drop] at h2
  have h3 : 0 ≤ wtL g (t.args.drop k) := by
    rw [← sumA_hdsL]
    refine sumA_nonneg (fun x hx => ?_)
    have h := hdsL_append (t.args.take k) (t.args.drop k)
    rw [List.take_append_drop] at h
    have := wo_bound hr (ht.heads x (by rw [T.hds_eq]; refine List.mem_cons_of_mem _ ?_; rw [h]; exact List.mem_append_right _ hx))
    omega
  have h4 := wtT_eq g t
  have h5 : wtT g t ≤ 400000 := by
    have hb := sumA_bound (f := wo g) (L := t.hds) (fun x hx => by have := wo_bound hr (ht.heads x hx); omega)
    rw [sumA_hds, T.hds_length] at hb
    have := (check_ok ht.1).1
    omega
  have h6 := wo_bound hr (ht.heads t.head (by rw [T.hds_eq]; simp))
  omega

set_option maxRecDepth 100000 in
set_option maxHeartbeats 4000000 in
theorem r7weight_any (g : Sg) (hr : rightG g = true) : ∀ (N : Nat) (t : T), t.size ≤ N → OkT g t → ∀ (n₀ : Nat) (ga : Option Addr) (gc : Nat) (a : Option Addr) (c : Nat) (w : World), n₀ ≤ w.heap.size → IsSg n₀ w g ga gc → IsArgs n₀ w t.args a c →
    Calls Tryz.prog 62 #[.slice ga g.length gc, tm t.head a t.args.length c] w fun e w' => e = .returned (.int .i64 (wtT g t)) ∧ Below w.heap.size w w' := by
  intro N
  induction N with
  | zero => intro t ht; have := T.size_pos t; omega
  | succ N ih =>
    intro t ht hok n₀ ga gc a c w hn hG hA
    have IH := Lib.hid ih
    clear ih
    have hlc : t.args.length ≤ c ∧ c ≤ maxLen := ⟨hA.1, hA.2.1⟩
    have hlg : g.length ≤ gc ∧ gc ≤ maxLen := ⟨hG.1, hG.2.1⟩
    unfold maxLen at hlc hlg
    obtain ⟨hl1, hl2⟩ := hlc
    obtain ⟨hl3, hl4⟩ := hlg
    have HS := Lib.hid (show ∀ s ∈ t.args, s.size ≤ N from fun s hs => by
      obtain ⟨i, hi⟩ := List.getElem?_of_mem hs
      have h1 := T.size_lt_of_mem hi
      have h2 := T.size_eq t
      omega)
    have HOK := Lib.hid (fun s (hs : s ∈ t.args) => hok.arg hs)
    have HWB := Lib.hid (fun k => wtL_bounds hr hok k)
    have hin := hok.heads t.head (by rw [T.hds_eq]; simp)
    have hwb := wo_bound hr hin
    have HWE := Lib.hid (wtT_eq g t)
    have HA := Lib.hid hA
    have HG := Lib.hid hG
    have hck := check_ok hok.1
    clear hA hG
    obtain ⟨W1, hW1⟩ : ∃ W1, w.alloc (tmCells t.head a t.args.length c) = W1 := ⟨_, rfl⟩
    have HF := Lib.hid (show Below w.heap.size w W1 from by rw [← hW1]; exact (Below.refl _ w).alloc (Nat.le_refl _) _)
    have hs1 : W1.heap.size = w.heap.size + 1 := by rw [← hW1]; simp
    have ht0 : W1.cell? ⟨w.heap.size, 0, none⟩ = some (.int .i64 t.head) := by rw [← hW1]; simp [go_sem]
    have ht1 : W1.cell? ⟨w.heap.size, 1, none⟩ = some (.slice a t.args.length c) := by rw [← hW1]; simp [go_sem]
    by_cases q1 : t.head < 0
    · have HD := Lib.hid (show wtT g t = 1 from by rw [wtT_eq, good_leaf hck.2.2 q1]; unfold wo; rw [if_pos q1]; rfl)
      clear hok hin hck
      go_enter Tryz.func62, Tryz.ntmps62
      go_wp2
      go_ret
      exact ⟨by rw [HD.out]; rfl, HF.out⟩
    have hlen : t.head.toNat < g.length := by rcases hin with h | h; omega; exact h
    obtain ⟨b, o, x, rfl, hbn, hs, hxw, hc0, hc1, hc2, hc3⟩ := HG.out.elem (i := t.head.toNat) hlen
    have hk0 : (0 : Int) ≤ t.head := by omega
    have hk1 : t.head < (g.length : Int) := by omega
    have hwx : wo g t.head = x.wt := by unfold wo; rw [if_neg q1, hs]
    have hbw : b < w.heap.size := by omega
    have hx1 : W1.cell? ⟨b, o + t.head.toNat * 4 + 2, none⟩ = some (.int .i64 x.wt) := (HF.out.cell (p := ⟨b, _, none⟩) hbw).trans hc2
    have HWX := Lib.hid hwx
    rw [hwx] at hwb
    clear hs hxw hc0 hc1 hc2 hc3 hok hck hwx
    go_enter Tryz.func62, Tryz.ntmps62
    go_wp2
    try rw [hW1]
    clear hW1
    go_loopw [5, 6] (fun n i wr => WtI g t (w.heap.size + 1) W1 n i wr) (fun _ i _ => t.args.length - (intOf i).toNat)
    case atStart => exact ⟨0, Nat.zero_le _, rfl, by rw [HWX.out]; simp [wtL], Below.refl _ _⟩
    case round =>
      obtain ⟨k, hk, rfl, rfl, hB⟩ := hrel
      have HB := Lib.hid hB
      have hbz := hB.size
      have hv1 : wr.cell? ⟨w.heap.size, 1, none⟩ = some (.slice a t.args.length c) := (hB.cell (p := ⟨w.heap.size, 1, none⟩) (by simp)).trans ht1
      have HBW := Lib.hid (show Below w.heap.size w wr from HF.out.trans (hB.mono (by omega)))
      clear hB hx1 ht0 ht1
      rw [HWX.out]
      have hkb := HWB.out k
      by_cases hlt : k < t.args.length
      · obtain ⟨b', o', s, a', c', rfl, hbn', hs, hswf, hc1, hc2, hA'⟩ := (HA.out.below (HBW.out.mono hn)).elem (i := k) hlt
        have hk2 : (0 : Int) ≤ (k : Int) := Int.natCast_nonneg _
        have hk3 : (k : Int) < (t.args.length : Int) := by omega
        have HSK := Lib.hid hs
        have CK := Lib.hid (IH.out s (HS.out s (List.mem_of_getElem? hs)) (HOK.out s (List.mem_of_getElem? hs)) n₀ (some ⟨b, o, none⟩) gc a' c' wr (by omega) (HG.out.below (HBW.out.mono hn)) hA')
        have hkb1 := HWB.out (k + 1)
        rw [wtL_take hs] at hkb1
        have HST := Lib.hid (wtL_take (g := g) hs)
        generalize wtL g (t.args.take k) = zk at *
        clear hs hswf hA'
        go_wp2_with fail
        refine CK.out.mono ?_
        rintro e w2 ⟨rfl, hb2⟩
        have HB2 := Lib.hid (HB.out.trans (hb2.mono (by omega)))
        clear hb2 CK
        generalize wtT g s = zs at *
        go_wp2
        go_roundw
        case rel => exact ⟨k + 1, by omega, by go_num, by rw [HST.out, HWX.out, Int.add_assoc], HB2.out⟩
        case measure => simp [intOf]; omega
      · obtain rfl : k = t.args.length := by omega
        have HE := Lib.hid (show wtT g t = x.wt + wtL g (t.args.take t.args.length) from by rw [HWE.out, HWX.out, List.take_length])
        go_wp2
        go_ret
        exact ⟨by rw [HE.out]; rfl, HBW.out⟩

set_option maxRecDepth 100000 in
set_option maxHeartbeats 2000000 in
theorem r7Weight_any (g : Sg) (t : T) (hsz : t.size ≤ 1000000000000) (n₀ : Nat) (ga : Option Addr) (gc : Nat) (a : Option Addr) (c : Nat) (w : World) (hn : n₀ ≤ w.heap.size) (hG : IsSg n₀ w g ga gc) (hA : IsArgs n₀ w t.args a c) :
    Calls Tryz.prog 43 #[.slice ga g.length gc, tm t.head a t.args.length c] w fun e w' => e = .returned (weightV g t) ∧ Below w.heap.size w w' := by
  obtain ⟨W1, hW1⟩ : ∃ W1, w.alloc (tmCells t.head a t.args.length c) = W1 := ⟨_, rfl⟩
  have L1 := Lib.hid (show ∀ W, Below W1.heap.size W1 W → W.cell? ⟨w.heap.size, 0, none⟩ = some (.int .i64 t.head) ∧ W.cell? ⟨w.heap.size, 1, none⟩ = some (.slice a t.args.length c) ∧ IsSg n₀ W g ga gc ∧ IsArgs n₀ W t.args a c ∧ Below w.heap.size w W ∧ n₀ ≤ W.heap.size from fun W hW => by
    have h0 : Below w.heap.size w W1 := by rw [← hW1]; exact (Below.refl _ w).alloc (Nat.le_refl _) _
    have h := h0.trans (hW.mono h0.size)
    exact ⟨(hW.cell (p := ⟨w.heap.size, 0, none⟩) (by rw [← hW1]; simp)).trans (by rw [← hW1]; simp [go_sem]), (hW.cell (p := ⟨w.heap.size, 1, none⟩) (by rw [← hW1]; simp)).trans (by rw [← hW1]; simp [go_sem]), hG.below (h.mono hn), hA.below (h.mono hn), h, Nat.le_trans hn h.size⟩)
  obtain ⟨c0, c1, _, _, _, _⟩ := L1.out W1 (Below.refl _ _)
  clear hG hA
  go_enter Tryz.func43, Tryz.ntmps43
  go_wp2_with fail
  try rw [hW1]
  obtain ⟨_, _, hG1, hA1, _, hn1⟩ := L1.out W1 (Below.refl _ _)
  refine (r7Term_any g t hsz n₀ ga gc a c W1 hn1 hG1 hA1).mono ?_
  rintro e w2 ⟨rfl, hb2⟩
  have B2 := Lib.hid hb2
  clear hb2 hG1 hA1 hW1 c0 c1
  obtain ⟨c0, c1, hG2, hA2, hb, hn2⟩ := L1.out w2 B2.out
  by_cases qe : errT g t = 0
  · have hwv : weightV g t = .tuple #[.int .i64 (wtT g t), .int .i64 0] := by unfold weightV; rw [if_pos qe]
    have HWV := Lib.hid hwv
    obtain ⟨hr, _⟩ := errT_ok qe
    have CW := Lib.hid (r7weight_any g hr t.size t (Nat.le_refl _) ((okT_iff hr).1 qe) n₀ ga gc a c w2 hn2 hG2 hA2)
    rw [qe]
    clear hG2 hA2 hb hwv hr qe
    go_wp2_with fail
    refine CW.out.mono ?_
    rintro e w3 ⟨rfl, hb3⟩
    have HB := Lib.hid (L1.out w3 (B2.out.trans (hb3.mono B2.out.size))).2.2.2.2.1
    clear hb3
    go_wp2
    refine bodyPost_ret (v := .tuple #[.int .i64 (wtT g t), .int .i64 0]) (by simp [results, Tryz.results43, go_sem]) rfl ?_
    exact ⟨by rw [HWV.out], HB.out⟩
  · obtain ⟨k, hk⟩ : ∃ k, errT g t = k := ⟨_, rfl⟩
    have hk0 : (k != 0) = true := by rw [← hk]; simpa using qe
    have HWV := Lib.hid (show weightV g t = .tuple #[.int .i64 0, .int .i64 k] from by unfold weightV; rw [if_neg qe, hk])
    have HB := Lib.hid hb
    rw [hk]
    clear hG2 hA2 hb hk qe
    go_wp2
    refine bodyPost_ret (v := .tuple #[.int .i64 0, .int .i64 k]) (by simp [results, Tryz.results43, go_sem]) rfl ?_
    exact ⟨by rw [HWV.out], HB.out⟩

def CoI (t : T) (h : Int) (B : Nat) (w1 : World) (n i : Value) (wr : World) : Prop := ∃ k : Nat, k ≤ t.args.length ∧ i = .int .i64 k ∧ n = .int .i64 (((if t.head = h then 1 else 0) + (T.hdsL (t.args.take k)).count h : Nat) : Int) ∧ Below B w1 wr
theorem count_hds (t : T) (h : Int) : t.hds.count h = (if t.head = h then 1 else 0) + (T.hdsL t.args).count h := by
  rw [T.hds_eq, List.count_cons]
  by_cases e : t.head = h
  · simp [e]; omega
  · simp [e]

set_option maxRecDepth 100000 in
set_option maxHeartbeats 4000000 in
theorem r7Count_any (v : Int) (hv0 : 0 ≤ v) (hv1 : v ≤ 1000000) : ∀ (N : Nat) (t : T), t.size ≤ N → t.size ≤ 1000000000000 → ∀ (n₀ : Nat) (a : Option Addr) (c : Nat) (w : World), n₀ ≤ w.heap.size → IsArgs n₀ w t.args a c →
    Calls Tryz.prog 61 #[tm t.head a t.args.length c, .int .i64 v] w fun e w' => e = .returned (.int .i64 ((t.hds.count (-1 - v) : Nat) : Int)) ∧ Below w.heap.size w w' := by
  intro N
  induction N with
  | zero => intro t ht; have := T.size_pos t; omega
  | succ N ih =>
    intro t ht hbig n₀ a c w hn hA
    have IH := Lib.hid ih
    clear ih
    have hlc : t.args.length ≤ c ∧ c ≤ maxLen := ⟨hA.1, hA.2.1⟩
    unfold maxLen at hlc
    obtain ⟨hl1, hl2⟩ := hlc
    have HS := Lib.hid (show ∀ s ∈ t.args, s.size ≤ N ∧ s.size ≤ 1000000000000 from fun s hs => by
      obtain ⟨i, hi⟩ := List.getElem?_of_mem hs
      have h1 := T.size_lt_of_mem hi
      have h2 := T.size_eq t
      exact ⟨by omega, by omega⟩)
    have HCB := Lib.hid (fun k => show (T.hdsL (t.args.take k)).count (-1 - v) ≤ 1000000000000 from by
      have h1 : (T.hdsL (t.args.take k)).count (-1 - v) ≤ (T.hdsL (t.args.take k)).length := List.count_le_length
      rw [T.hdsL_length] at h1
      have h3 := T.sizes_append (t.args.take k) (t.args.drop k)
      rw [List.take_append_drop] at h3
      have h4 := T.size_eq t
      omega)
    have HCH := Lib.hid (count_hds t (-1 - v))
    have HA := Lib.hid hA
    clear hA
    obtain ⟨W1, hW1⟩ : ∃ W1, w.alloc (tmCells t.head a t.args.length c) = W1 := ⟨_, rfl⟩
    have HF := Lib.hid (show Below w.heap.size w W1 from by rw [← hW1]; exact (Below.refl _ w).alloc (Nat.le_refl _) _)
    have hs1 : W1.heap.size = w.heap.size + 1 := by rw [← hW1]; simp
    have ht0 : W1.cell? ⟨w.heap.size, 0, none⟩ = some (.int .i64 t.head) := by rw [← hW1]; simp [go_sem]
    have ht1 : W1.cell? ⟨w.heap.size, 1, none⟩ = some (.slice a t.args.length c) := by rw [← hW1]; simp [go_sem]
    obtain ⟨u, hu⟩ : ∃ u : Nat, (if t.head = -1 - v then 1 else 0) = u := ⟨_, rfl⟩
    have hu1 : u ≤ 1 := by rw [← hu]; split <;> omega
    have HU := Lib.hid hu
    have hcase : (decide (t.head = -1 - v) = true ∧ (t.head == -1 - v) = true ∧ u = 1) ∨ (decide (t.head = -1 - v) = false ∧ (t.head == -1 - v) = false ∧ u = 0) := by
      by_cases e : t.head = -1 - v
      · exact .inl ⟨decide_eq_true e, by simpa using e, by rw [← hu, if_pos e]⟩
      · exact .inr ⟨decide_eq_false e, by simpa using e, by rw [← hu, if_neg e]⟩
    clear hu
    rcases hcase with ⟨e, e', rfl⟩ | ⟨e, e', rfl⟩
    all_goals
      go_enter Tryz.func61, Tryz.ntmps61
      go_wp2
      try rw [hW1]
      clear hW1
      go_loopw [5, 6] (fun n i wr => CoI t (-1 - v) (w.heap.size + 1) W1 n i wr) (fun _ i _ => t.args.length - (intOf i).toNat)
      case atStart => exact ⟨0, Nat.zero_le _, rfl, by rw [HU.out]; simp [T.hdsL], Below.refl _ _⟩
      case round =>
        obtain ⟨k, hk, rfl, rfl, hB⟩ := hrel
        have HB := Lib.hid hB
        have hbz := hB.size
        have hv1 : wr.cell? ⟨w.heap.size, 1, none⟩ = some (.slice a t.args.length c) := (hB.cell (p := ⟨w.heap.size, 1, none⟩) (by simp)).trans ht1
        have HBW := Lib.hid (show Below w.heap.size w wr from HF.out.trans (hB.mono (by omega)))
        clear hB ht0 ht1
        rw [HU.out]
        have hkb := HCB.out k
        by_cases hlt : k < t.args.length
        · obtain ⟨b', o', s, a', c', rfl, hbn', hs, hswf, hc1, hc2, hA'⟩ := (HA.out.below (HBW.out.mono hn)).elem (i := k) hlt
          have hk2 : (0 : Int) ≤ (k : Int) := Int.natCast_nonneg _
          have hk3 : (k : Int) < (t.args.length : Int) := by omega
          have CK := Lib.hid (IH.out s (HS.out s (List.mem_of_getElem? hs)).1 (HS.out s (List.mem_of_getElem? hs)).2 n₀ a' c' wr (by omega) hA')
          have hkb1 := HCB.out (k + 1)
          rw [hdsL_take hs, List.count_append] at hkb1
          have HST := Lib.hid (show (T.hdsL (t.args.take (k + 1))).count (-1 - v) = (T.hdsL (t.args.take k)).count (-1 - v) + s.hds.count (-1 - v) from by rw [hdsL_take hs, List.count_append])
          generalize (T.hdsL (t.args.take k)).count (-1 - v) = zk at *
          clear hs hswf hA'
          go_wp2_with fail
          refine CK.out.mono ?_
          rintro e w2 ⟨rfl, hb2⟩
          have HB2 := Lib.hid (HB.out.trans (hb2.mono (by omega)))
          clear hb2 CK
          generalize s.hds.count (-1 - v) = zs at *
          go_wp2
          go_roundw
          case rel => exact ⟨k + 1, by omega, by go_num, by rw [HST.out, HU.out]; exact congrArg (fun x : Int => Value.int .i64 x) (by omega), HB2.out⟩
          case measure => simp [intOf]; omega
        · obtain rfl : k = t.args.length := by omega
          have HE := Lib.hid (show ((t.hds.count (-1 - v) : Nat) : Int) = ((_ + (T.hdsL (t.args.take t.args.length)).count (-1 - v) : Nat) : Int) from by rw [HCH.out, HU.out, List.take_length])
          go_wp2
          go_ret
          exact ⟨by rw [HE.out]; rfl, HBW.out⟩

end Go.Proofs.YtleohdddaadbeaaGreat
