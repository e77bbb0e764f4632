/- QBx: joined of Wg, In0, Fw7, Fw10, FewS, Tr5, Wsd, Tau, Apc, Aw10, Law3, LpF. -/
import Derived.Test.YtpncmdlbmnmahaaGreatQBe
import Derived.Test.YtpncmdlbmnmahaaGreatQBw
import Derived.Test.YtpncmdlbmnmahaaGreatQBa
import Derived.Test.YtpncmdlbmnmahaaGreatQBb
import Derived.Lib.QuietBelow
import Derived.Deep.QuietTactic
import Derived.BigQuiet
import Derived.Test.YtpncmdlbmnmahaaGreatQBc
import Derived.Test.YtpncmdlbmnmahaaGreatQBp
import Derived.Test.YtpncmdlbmnmahaaGreatQBn
import Derived.Test.YtpncmdlbmnmahaaGreatQBq
import Derived.Test.YtpncmdlbmnmahaaGreatQBv
import Derived.Test.YtpncmdlbmnmahaaGreatQBd
import Derived.Test.YtpncmdlbmnmahaaGreatQBj
import Derived.Deep.RegionLaw
import Derived.Deep.RegionHeld3
import Derived.BigRegion
import Derived.Test.YtpncmdlbmnmahaaGreatQBm
import Derived.Test.YtpncmdlbmnmahaaGreatCopy
import Derived.Deep.AppendLies
import Derived.Laws.IdiomCopy
import Derived.Shelf.RegionOpenPlain
import Derived.Lib.SliceRun
import Derived.Laws.OwnMore
import Derived.Test.YtpncmdlbmnmahaaGreatQBu
import Derived.Deep.CutRange
import Derived.Test.YtpncmdlbmnmahaaGreatQBo
/- Contract of weigh's Weight: a sum over a map. -/
namespace Go.Proofs.YtpncmdlbmnmahaaGreat
set_option linter.unusedVariables false
set_option linter.unusedSimpArgs false
open Go.RowKit Go.Maps
theorem weightOf_any (g : Sg) (h : Int) (hs : inS g h) (n₀ : Nat) (ga : Option Addr) (gc : Nat) (w : World) (hn : n₀ ≤ w.heap.size) (hG : IsSg n₀ w g ga gc) :
    Calls Tryz.prog 121 #[.slice ga g.length gc, .int .i64 h] w fun e w' => e = .returned (.int .i64 (wo g h)) ∧ w' = w := by
  have hlg : g.length ≤ gc ∧ gc ≤ maxLen := ⟨hG.1, hG.2.1⟩
  unfold maxLen at hlg
  obtain ⟨hl3, hl4⟩ := hlg
  by_cases q : h < 0
  · have HD := Lib.hid (show wo g h = 1 from by unfold wo; rw [if_pos q])
    go_enter Tryz.func121, Tryz.ntmps121
    go_wp2
    go_ret
    exact ⟨by rw [HD.out]; rfl, rfl⟩
  · have hk : h.toNat < g.length := by rcases hs with hs | hs; omega; exact hs
    obtain ⟨b, o, x, rfl, hbn, hsx, hxw, hc0, hc1, hc2, hc3⟩ := hG.elem (i := h.toNat) hk
    have HD := Lib.hid (show wo g h = x.wt from by unfold wo; rw [if_neg q, hsx])
    have h0 : 0 ≤ h := by omega
    have h1 : h < (g.length : Int) := by omega
    clear hG hsx hxw
    go_enter Tryz.func121, Tryz.ntmps121
    go_wp2
    go_ret
    exact ⟨by rw [HD.out]; rfl, rfl⟩
set_option maxRecDepth 100000 in
set_option maxHeartbeats 4000000 in
theorem weight_any (g : Sg) (t : T) (hsz : t.size ≤ 1000000000000) (n₀ : Nat) (ga : Option Addr) (gc : Nat) (a : Option Addr) (c : Nat) (w : World) (hn : n₀ ≤ w.heap.size) (hG : IsSg n₀ w g ga gc) (hwf : (Lit.int .i64 t.head).wf = true) (hA : IsArgs n₀ w t.args a c) :
    Calls Tryz.prog 90 #[.slice ga g.length gc, tm t.head a t.args.length c] w fun e w' => e = .returned (weightV g t) ∧ Below w.heap.size w w' := by
  obtain ⟨W1, hW1⟩ : ∃ W1, w.alloc (tmCells t.head a t.args.length c) = W1 := ⟨_, rfl⟩
  have hF1 : Below w.heap.size w W1 := by rw [← hW1]; exact (Below.refl _ w).alloc (Nat.le_refl _) _
  have HF1 := Lib.hid hF1
  have LT := Lib.hid (show Later (fun X => Vc w.heap.size t.head a t.args.length c X) W1 from by rw [← hW1]; exact later_var w _ _ _ _)
  have CT := Lib.hid (fun (W : World) (hW : Below w.heap.size w W) => sgTerm_any g t hsz n₀ ga gc a c W (Nat.le_trans hn hW.size) (hG.below (hW.mono hn)) hwf (hA.below (hW.mono hn)))
  have CH := Lib.hid (fun (W : World) (hW : Below w.heap.size w W) => heads_any t hsz n₀ a c W (Nat.le_trans hn hW.size) hwf (hA.below (hW.mono hn)))
  have CW := Lib.hid (fun (h : Int) (hs : inS g h) (W : World) (hW : Below w.heap.size w W) => weightOf_any g h hs n₀ ga gc W (Nat.le_trans hn hW.size) (hG.below (hW.mono hn)))
  have hlg : g.length ≤ gc ∧ gc ≤ maxLen := ⟨hG.1, hG.2.1⟩
  unfold maxLen at hlg
  obtain ⟨hv0, hv1⟩ := LT.out.now
  clear hF1 hG hA
  go_enter Tryz.func90, Tryz.ntmps90
  go_wp2_with fail
  refine (CT.out _ HF1.out).mono ?_
  rintro e w2 ⟨rfl, hb2⟩
  have hB2 : Below w.heap.size w w2 := HF1.out.trans (hb2.mono HF1.out.size)
  have LT2 := Lib.hid (LT.out.mv hb2)
  have HB2 := Lib.hid hB2
  clear hb2 hB2 LT hW1 hv0 hv1
  by_cases h0 : errT g t = 0
  · have HV := Lib.hid (show weightV g t = .tuple #[.int .i64 (wtT g t), .int .i64 0] from by unfold weightV; rw [if_pos h0])
    obtain ⟨hr, hck, hft, hpr⟩ := errT_ok h0
    have HSZ := Lib.hid (check_ok hck).1
    have HIS := Lib.hid (fits_heads t hft (check_ok hck).2.2)
    have HWO := Lib.hid (fun (h : Int) (hm : h ∈ t.hds) => wo_bound hr (HIS.out h hm))
    rw [h0]
    have hv := LT2.out.now
    obtain ⟨hv0, hv1⟩ := hv
    clear h0 hr hck hft hpr
    go_wp2_with fail
    refine (CH.out _ HB2.out).mono ?_
    rintro e w3 ⟨M, rfl, hM1, hM2, hb3⟩
    have HB3 := Lib.hid (HB2.out.trans (hb3.mono HB2.out.size))
    obtain ⟨D, hown, hD, hwfs⟩ := hM2
    have HD := Lib.hid hD
    have HWF := Lib.hid hwfs
    have hMw : w.heap.size ≤ M := by have := HB2.out.size; omega
    clear hb3 LT2 hv0 hv1 hD hwfs
    go_wp2_with (first | (at_range; refine wpList_range_own _ rfl _ 132 rfl 3 3 keyHd Tryz.underlying132 _ M _ D rfl hown ?_; intro w4 hrg0 hg0 hs0))
    go_frame
    have hBr : Below w.heap.size w w4 := HB3.out.grown hg0 HB3.out.size (fun k e => by cases e)
    have hall0 : ∀ h ∈ t.hds, Maps.has D (.int .i64 h) = true := fun h hm => by rw [(HD.out h (HWF.out h hm)).1]; simp [hm]
    have HST := Lib.hid (show ∃ (left : Lit → Bool) (cnt : Nat), w4.ranges Tryz.prog 3 (plainElem Tryz.prog 3) M w3.heap.size t.hds.length D left cnt ∧ Value.int .i64 0 = .int .i64 (sumN (wo g) left t.hds) ∧ Below w.heap.size w w4 from
      ⟨_, _, hrg0, by rw [sumN_start hall0], hBr⟩)
    have h3w : w.heap.size ≤ w3.heap.size := HB3.out.size
    clear hrg0 hg0 hs0 hBr hall0 hown
    go_loopw [7] (fun sv wr => ∃ (left : Lit → Bool) (cnt : Nat), wr.ranges Tryz.prog 3 (plainElem Tryz.prog 3) M w3.heap.size t.hds.length D left cnt ∧ sv = .int .i64 (sumN (wo g) left t.hds) ∧ Below w.heap.size w wr) (fun _ wr => wr.rangeLeft M w3.heap.size)
    case atStart => exact HST.out
    case round =>
      clear HST
      obtain ⟨left, cnt, hrg, rfl, hB⟩ := hrel
      have HB := Lib.hid hB
      clear hB
      go_wp2_with (first | (at_next; refine wpList_next_ranges_ii _ rfl _ rfl 3 3 .i64 .i64 keyHd Tryz.underlying3 Tryz.underlying3 M w3.heap.size _ _ _ _ rfl hrg ?_ ?_))
      · intro hc0 hl0
        have HE := Lib.hid (show sumN (wo g) left t.hds = wtT g t from by rw [sumN_end hl0, sumA_hds])
        generalize sumN (wo g) left t.hds = q at *
        go_wp2
        refine bodyPost_ret (v := .tuple #[.int .i64 q, .int .i64 0]) (by simp [results, Tryz.results90, go_sem]) rfl ?_
        exact ⟨by rw [HV.out, HE.out], HB.out⟩
      · intro x cv w5 cnt1 hwx hwc hlx hat hrg1 hlt hg1 hs1 hen
        have hB5 : Below w.heap.size w w5 := HB.out.grown hg1 HB.out.size (fun j hj => by cases hj; exact h3w)
        obtain ⟨hxm, rfl⟩ := CntM.entry HD.out hwx hat
        have hstep := sumN_step (f := wo g) hlx (L := t.hds)
        have hbd := sumN_bound (f := wo g) (left := left) (L := t.hds) (fun h hm => by have := HWO.out h hm; omega)
        have hcl : t.hds.count x ≤ t.hds.length := List.count_le_length
        have hwo := HWO.out x hxm
        have hln := T.hds_length t
        have hszz := HSZ.out
        have hmul := mul_small (t.hds.count x) (wo g x) (by omega) (by omega) (by omega)
        have HRG := Lib.hid hrg1
        have HR0 := Lib.hid hrg
        have HB5 := Lib.hid hB5
        have hisx := HIS.out x hxm
        have HCW := Lib.hid (CW.out x hisx w5 HB5.out)
        have hs5 : (0 : Int) ≤ sumN (wo g) left t.hds ∧ sumN (wo g) left t.hds ≤ 400000 := by omega
        obtain ⟨q, hq⟩ : ∃ q, sumN (wo g) left t.hds = q := ⟨_, rfl⟩
        obtain ⟨qc, hqc⟩ : ∃ qc, t.hds.count x = qc := ⟨_, rfl⟩
        obtain ⟨qw, hqw⟩ : ∃ qw, wo g x = qw := ⟨_, rfl⟩
        rw [hq, hqc, hqw] at hstep
        rw [hq] at hs5 ⊢
        rw [hqc, hqw] at hmul
        rw [hqc] at hen ⊢
        rw [hqw] at HCW
        have HSTEP := Lib.hid hstep
        clear hrg1 hstep hB5 hat hbd hwx hwc hlx hcl hrg hln hq hqc hqw hwo
        go_wp2_with fail
        refine HCW.out.mono ?_
        rintro e w6 ⟨rfl, rfl⟩
        go_wp2
        go_roundw
        case rel =>
          refine ⟨fun z => left z && !z.sameKey (.int .i64 x), cnt1, HRG.out, ?_, HB5.out⟩
          rw [HSTEP.out]
        case measure => rw [HRG.out.left_eq, HR0.out.left_eq]; exact hlt
  · have HV := Lib.hid (show weightV g t = .tuple #[.int .i64 0, .int .i64 (errT g t)] from by unfold weightV; rw [if_neg h0])
    obtain ⟨k, hk⟩ : ∃ k, errT g t = k := ⟨_, rfl⟩
    have hk0 : (k != 0) = true := by rw [← hk]; simpa using h0
    rw [hk]
    rw [hk] at HV
    clear h0 hk
    go_wp2
    refine bodyPost_ret (v := .tuple #[.int .i64 0, .int .i64 k]) (by simp [results, Tryz.results90, go_sem]) rfl ?_
    exact ⟨by rw [HV.out], HB2.out⟩
end Go.Proofs.YtpncmdlbmnmahaaGreat

/- In0: of Ints, the contract of the reference's Ints. -/
namespace Go.Proofs.YtpncmdlbmnmahaaGreat
set_option linter.unusedVariables false
set_option linter.unusedSimpArgs false
open Go.RowKit
theorem take_eq_all {α : Type} {zs ys : List α} (hl : zs.length = ys.length) (h : zs.take zs.length = ys.take zs.length) : zs = ys := by
  rwa [List.take_length, hl, List.take_length] at h
theorem take_succ_eq {α : Type} {zs ys : List α} {k : Nat} {x : α} (h : zs.take k = ys.take k) (hz : zs[k]? = some x) (hy : ys[k]? = some x) : zs.take (k + 1) = ys.take (k + 1) := by
  obtain ⟨h1, e1⟩ := List.getElem?_eq_some_iff.1 hz
  obtain ⟨h2, e2⟩ := List.getElem?_eq_some_iff.1 hy
  rw [List.take_succ_eq_append_getElem h1, List.take_succ_eq_append_getElem h2, h, e1, e2]
def IntsI (zs ys : List Int) (w : World) (i : Value) (wr : World) : Prop := ∃ k : Nat, k ≤ zs.length ∧ i = .int .i64 k ∧ zs.take k = ys.take k ∧ Below w.heap.size w wr
set_option maxHeartbeats 1000000 in
theorem ints_any (zs ys : List Int) (n₀ : Nat) (a : Option Addr) (c : Nat) (a' : Option Addr) (c' : Nat) (w : World) (hn : n₀ ≤ w.heap.size) (hZ : IsIs n₀ w zs a c) (hY : IsIs n₀ w ys a' c') :
    Calls Tryz.prog 16 #[.slice a zs.length c, .slice a' ys.length c'] w fun e w' => e = .returned (.bool (decide (zs = ys))) ∧ Below w.heap.size w w' := by
  have hz : zs.length ≤ c ∧ c ≤ maxLen := ⟨hZ.1, hZ.2.1⟩
  have hy : ys.length ≤ c' ∧ c' ≤ maxLen := ⟨hY.1, hY.2.1⟩
  unfold maxLen at hz hy
  obtain ⟨hz1, hz2⟩ := hz
  obtain ⟨hy1, hy2⟩ := hy
  have HZ := Lib.hid hZ
  have HY := Lib.hid hY
  clear hZ hY
  by_cases hl : zs.length = ys.length
  · have hl1 : ((zs.length : Int) != (ys.length : Int)) = false := by simp; omega
    have hl2 : (zs.length != ys.length) = false := by simp; omega
    have HL := Lib.hid hl
    clear hl
    go_enter Tryz.func16, Tryz.ntmps16
    go_wp2
    go_loopw [5] (fun i wr => IntsI zs ys w i wr) (fun i _ => zs.length - (intOf i).toNat)
    case atStart => exact ⟨0, Nat.zero_le _, rfl, rfl, Below.refl _ _⟩
    case round =>
      obtain ⟨k, hk, rfl, htk, hB⟩ := hrel
      have HTK := Lib.hid htk
      have HB := Lib.hid hB
      clear htk
      by_cases hlt : k < zs.length
      · obtain ⟨b, o, z, rfl, hb, hzk, hcz⟩ := (HZ.out.below (hB.mono hn)).elem hlt
        obtain ⟨b', o', y, rfl, hb', hyk, hcy⟩ := (HY.out.below (hB.mono hn)).elem (k := k) (by have := HL.out; omega)
        have HZK := Lib.hid hzk
        have HYK := Lib.hid hyk
        have hlt' : k < ys.length := by have := HL.out; omega
        clear hzk hyk hB
        by_cases e : z = y
        · subst e
          go_wp2
          go_quiet (fail)
          go_wp2
          go_roundw
          case rel => exact ⟨k + 1, by omega, by go_num, take_succ_eq HTK.out HZK.out HYK.out, HB.out.trans (⟨rfl, rfl, rfl, Nat.le_refl _, fun _ _ => rfl⟩)⟩
          case measure => simp [intOf]; omega
        · have e1 : (z != y) = true := by simpa using e
          go_wp2
          go_quiet (fail)
          go_wp2
          go_ret
          refine ⟨?_, HB.out.trans (⟨rfl, rfl, rfl, Nat.le_refl _, fun _ _ => rfl⟩)⟩
          rw [decide_eq_false (fun h => e (by have h1 := HZK.out; rw [h, HYK.out] at h1; exact (Option.some.inj h1).symm))]; rfl
      · obtain rfl : k = zs.length := by omega
        clear hB
        go_wp2
        go_ret
        refine ⟨?_, HB.out⟩
        rw [decide_eq_true (take_eq_all HL.out HTK.out)]; rfl
  · have hl1 : ((zs.length : Int) != (ys.length : Int)) = true := by simp; omega
    have hl2 : (zs.length != ys.length) = true := by simp; omega
    go_enter Tryz.func16, Tryz.ntmps16
    go_wp2
    go_ret
    refine ⟨?_, Below.refl _ _⟩
    rw [decide_eq_false (fun h => hl (by rw [h]))]; rfl
end Go.Proofs.YtpncmdlbmnmahaaGreat

/- Contract of the reference's Few at signatures. -/
namespace Go.Proofs.YtpncmdlbmnmahaaGreat
set_option linter.unusedVariables false
set_option linter.unusedSimpArgs false
open Go.RowKit
def FgI (g : Sg) (w : World) (i : Value) (wr : World) : Prop := ∃ k : Nat, k ≤ g.length ∧ i = .int .i64 k ∧ Below w.heap.size w wr
def FgPost (w : World) (e : Ending) (w' : World) : Prop := ∃ b : Bool, e = .returned (.bool b) ∧ Below w.heap.size w w'
set_option maxRecDepth 100000 in
set_option maxHeartbeats 2000000 in
theorem fewG_any (g : Sg) (n₀ : Nat) (a : Option Addr) (c : Nat) (w : World) (hn : n₀ ≤ w.heap.size) (hG : IsSg n₀ w g a c) :
    Calls Tryz.prog 20 #[.slice a g.length c] w (FgPost w) := by
  have hlc : g.length ≤ c ∧ c ≤ maxLen := ⟨hG.1, hG.2.1⟩
  unfold maxLen at hlc
  obtain ⟨hl1, hl2⟩ := hlc
  have HG := Lib.hid hG
  clear hG
  go_enter Tryz.func20, Tryz.ntmps20
  go_wp2
  go_loopw [3] (fun i wr => FgI g w i wr) (fun i _ => g.length - (intOf i).toNat)
  case atStart => exact ⟨0, Nat.zero_le _, rfl, Below.refl _ _⟩
  case round =>
    obtain ⟨k, hk, rfl, hB⟩ := hrel
    have HB := Lib.hid hB
    have hbz := hB.size
    by_cases hlt : k < g.length
    · obtain ⟨b, o, x, rfl, hbn, hs, hxw, hc0, hc1, hc2, hc3⟩ := (HG.out.below (hB.mono hn)).elem (i := k) hlt
      have hk0 : (0 : Int) ≤ (k : Int) := Int.natCast_nonneg _
      have hk1 : (k : Int) < (g.length : Int) := by omega
      have hxs := hxw.1
      unfold maxLen at hxs
      clear hs hxw hB
      by_cases q : 300 < g.length
      · go_wp2
        all_goals (go_ret; exact ⟨_, rfl, HB.out⟩)
      · by_cases q2 : 100 < x.name.size
        · go_wp2
          all_goals (go_ret; exact ⟨_, rfl, HB.out⟩)
        · go_wp2
          go_roundw
          case rel => exact ⟨k + 1, by omega, by go_num, HB.out⟩
          case measure => simp [intOf]; omega
    · obtain rfl : k = g.length := by omega
      clear hB
      go_wp2
      all_goals (go_ret; exact ⟨_, rfl, HB.out⟩)
end Go.Proofs.YtpncmdlbmnmahaaGreat

/- Contract of layer 10's few. -/
namespace Go.Proofs.YtpncmdlbmnmahaaGreat
set_option linter.unusedVariables false
set_option linter.unusedSimpArgs false
open Go.RowKit
/-- A clause with few parts. -/
def FewC (P : List LV) : Prop := P.length ≤ 40 ∧ T.sizes (sidesC (t3s P)) ≤ 500
theorem FewC.sz {P : List LV} (h : FewC P) : ∀ x ∈ P, x.sz := fun x hx => by
  have h2 : ∀ t ∈ sidesC (t3s P), t.size ≤ 500 := fun t ht => Nat.le_trans (mem_sizes ht) h.2
  have : ∀ t, t = x.l ∨ t = x.r → t ∈ sidesC (t3s P) := fun t ht => by
    unfold sidesC
    rw [List.mem_flatten]
    refine ⟨[x.l, x.r], List.mem_map.2 ⟨x.t3, List.mem_map.2 ⟨x, hx, rfl⟩, rfl⟩, by simpa using ht⟩
  have h3 := h2 _ (this _ (.inl rfl))
  have h4 := h2 _ (this _ (.inr rfl))
  exact ⟨by omega, by omega⟩
end Go.Proofs.YtpncmdlbmnmahaaGreat

/- Contract of the reference's Few of substitutions. -/
namespace Go.Proofs.YtpncmdlbmnmahaaGreat
set_option linter.unusedVariables false
set_option linter.unusedSimpArgs false
open Go.RowKit
def FewI (s : Sb) (w : World) (n i : Value) (wr : World) : Prop := ∃ k m : Nat, k ≤ s.length ∧ i = .int .i64 k ∧ n = .int .i64 (m : Int) ∧ m ≤ 1001 ∧ (m ≤ 500 → ∀ j x, j < k → s[j]? = some x → x.2.size ≤ 500) ∧ Below w.heap.size w wr
def FewPost (s : Sb) (w : World) (e : Ending) (w' : World) : Prop := ∃ b : Bool, e = .returned (.bool b) ∧ (b = true → ∀ x ∈ s, x.2.size ≤ 500) ∧ Below w.heap.size w w'
set_option maxRecDepth 100000 in
set_option maxHeartbeats 1000000 in
theorem fewS_any (s : Sb) (n₀ : Nat) (a : Option Addr) (c : Nat) (w : World) (hn : n₀ ≤ w.heap.size) (hS : IsBs n₀ w s a c) :
    Calls Tryz.prog 8 #[.slice a s.length c] w (FewPost s w) := by
  have hl : s.length ≤ c ∧ c ≤ maxLen := ⟨hS.1, hS.2.1⟩
  unfold maxLen at hl
  obtain ⟨hl1, hl2⟩ := hl
  have HS := Lib.hid hS
  clear hS
  go_enter Tryz.func8, Tryz.ntmps8
  go_wp2
  go_loopw [3, 4] (fun n i wr => FewI s w n i wr) (fun _ i _ => s.length - (intOf i).toNat)
  case atStart => exact ⟨0, 0, Nat.zero_le _, rfl, rfl, by omega, fun _ j x h => by omega, Below.refl _ _⟩
  case round =>
    obtain ⟨k, m, hk, rfl, rfl, hm, hall, hB⟩ := hrel
    have HAL := Lib.hid hall
    have HB := Lib.hid hB
    have hbz := hB.size
    clear hall hB
    by_cases hlt : k < s.length
    · have hk0 : (0 : Int) ≤ (k : Int) := Int.natCast_nonneg _
      have hk1 : (k : Int) < (s.length : Int) := by omega
      by_cases q1 : s.length ≤ 10
      · have q1' : (s.length : Int) ≤ 10 := by omega
        by_cases q2 : m ≤ 500
        · have q2' : (m : Int) ≤ 500 := by omega
          obtain ⟨b, o, x, t, a', c', rfl, hbn, hsk, hxw, htw, hc0, hc1, hc2, hA'⟩ := (HS.out.below (HB.out.mono hn)).elem (i := k) hlt
          have HSK := Lib.hid hsk
          have HA' := Lib.hid hA'
          have hnw : n₀ ≤ wr.heap.size := by omega
          clear hsk hxw htw hA'
          go_wp2_with fail
          refine (count_any t.size t (Nat.le_refl _) 500 n₀ a' c' wr (Nat.le_refl _) hnw HA'.out).mono ?_
          rintro e w2 ⟨rfl, hb2⟩
          obtain ⟨q, hq⟩ : ∃ q : Nat, min t.size (500 + 1) = q := ⟨_, rfl⟩
          rw [hq]
          have hq1 : q ≤ 501 := by omega
          have HB2 := Lib.hid (HB.out.trans (hb2.mono HB.out.size))
          have HQ := Lib.hid hq
          clear hb2 hq
          go_wp2
          go_roundw
          case rel =>
            refine ⟨k + 1, m + q, by omega, by go_num, by go_num, by omega, fun h j y hj hy => ?_, HB2.out⟩
            by_cases e : j = k
            · subst e
              rw [HSK.out] at hy
              cases hy
              have := HQ.out
              show t.size ≤ 500
              omega
            · exact HAL.out (by omega) j y (by omega) hy
          case measure => simp [intOf]; omega
        · have q2' : ¬ (m : Int) ≤ 500 := by omega
          go_wp2
          go_ret
          exact ⟨false, rfl, fun h => (by cases h), HB.out⟩
      · have q1' : ¬ (s.length : Int) ≤ 10 := by omega
        go_wp2
        go_ret
        exact ⟨false, rfl, fun h => (by cases h), HB.out⟩
    · have hk1 : ¬ (k : Int) < (s.length : Int) := by omega
      have hend : m ≤ 500 → ∀ x ∈ s, x.2.size ≤ 500 := fun h x hx => by
        obtain ⟨j, hj⟩ := List.getElem?_of_mem hx
        exact HAL.out h j x (by have := (List.getElem?_eq_some_iff.1 hj).1; omega) hj
      have HE := Lib.hid hend
      clear hend
      by_cases q1 : s.length ≤ 10
      · have q1' : (s.length : Int) ≤ 10 := by omega
        by_cases q2 : m ≤ 500
        · have q2' : (m : Int) ≤ 500 := by omega
          go_wp2
          go_ret
          exact ⟨true, rfl, fun _ => HE.out q2, HB.out⟩
        · have q2' : ¬ (m : Int) ≤ 500 := by omega
          go_wp2
          go_ret
          exact ⟨false, rfl, fun h => (by cases h), HB.out⟩
      · have q1' : ¬ (s.length : Int) ≤ 10 := by omega
        go_wp2
        go_ret
        exact ⟨false, rfl, fun h => (by cases h), HB.out⟩
end Go.Proofs.YtpncmdlbmnmahaaGreat

/- Tr5: split off Law9w. -/
namespace Go.Proofs.YtpncmdlbmnmahaaGreat
set_option linter.unusedVariables false
set_option linter.unusedSimpArgs false
set_option maxRecDepth 100000
open Go.ChangeShapes Go.WideShapes Go.ChangeAt Go.RowKit Go.Joins
/-- Five parameters. -/
theorem trodAll_five {H : Type} {enc : TypeId × Value → H} {w : World} {sp : Nat → Bool} {hd : Bool} {P : Program} {base : Nat} {t t1 t2 t3 t4 : TypeId} {args : Array Value} {ds : List (DataW H)} {ps : List MemPlace} (h : DataW.TrodAll enc P w base sp hd [t, t1, t2, t3, t4] args.toList ds ps) :
    ∃ v v1 v2 v3 v4 d d1 d2 d3 d4 p p1 p2 p3 p4, args = #[v, v1, v2, v3, v4] ∧ ds = [d, d1, d2, d3, d4] ∧ ps = p ++ p1 ++ p2 ++ p3 ++ p4 ∧ DataW.Trod enc P w base sp hd t v d p ∧ DataW.Trod enc P w base sp hd t1 v1 d1 p1 ∧ DataW.Trod enc P w base sp hd t2 v2 d2 p2 ∧ DataW.Trod enc P w base sp hd t3 v3 d3 p3 ∧ DataW.Trod enc P w base sp hd t4 v4 d4 p4 := by
  obtain ⟨v, vs, d, ds0, p, q, hargs, rfl, rfl, hd0, hrest⟩ := trodAll_cons h
  obtain ⟨v1, vs1, d1, ds1, p1, q1, rfl, rfl, rfl, hd1, hrest1⟩ := trodAll_cons hrest
  obtain ⟨v2, vs2, d2, ds2, p2, q2, rfl, rfl, rfl, hd2, hrest2⟩ := trodAll_cons hrest1
  obtain ⟨v3, vs3, d3, ds3, p3, q3, rfl, rfl, rfl, hd3, hrest3⟩ := trodAll_cons hrest2
  obtain ⟨v4, vs4, d4, ds4, p4, q4, rfl, rfl, rfl, hd4, hrest4⟩ := trodAll_cons hrest3
  obtain ⟨rfl, rfl, rfl⟩ := trodAll_nil hrest4
  exact ⟨v, v1, v2, v3, v4, d, d1, d2, d3, d4, p, p1, p2, p3, p4, by cases args; simp_all, rfl, by simp, hd0, hd1, hd2, hd3, hd4⟩
end Go.Proofs.YtpncmdlbmnmahaaGreat

/- Contracts of clause's withSides and Norm. -/
namespace Go.Proofs.YtpncmdlbmnmahaaGreat
set_option linter.unusedVariables false
set_option linter.unusedSimpArgs false
open Go.RowKit
theorem lcells_set {P : List LV} : ∀ {k : Nat} {x y : LV}, P[k]? = some y → y.n = x.n → ((((lcells P).set (k * 5 + 1) (.int .i64 x.l.head)).set (k * 5 + 2) (.slice x.pa x.l.args.length x.ca)).set (k * 5 + 3) (.int .i64 x.r.head)).set (k * 5 + 4) (.slice x.pb x.r.args.length x.cb) = lcells (P.set k x) := by
  induction P with
  | nil => intro k x y h; simp at h
  | cons z P ih =>
    intro k x y h hn
    cases k with
    | zero =>
      simp at h; subst h
      show _ = x.cells ++ lcells P
      show ((((z.cells ++ lcells P).set _ _).set _ _).set _ _).set _ _ = _
      simp [hn]
    | succ k =>
      have := ih (k := k) (x := x) (y := y) (by simpa using h) hn
      show ((((z.cells ++ lcells P).set _ _).set _ _).set _ _).set _ _ = z.cells ++ lcells (P.set k x)
      rw [← this]
      have e : ∀ (L : List Value) (i : Nat) (u : Value), (z.cells ++ L).set ((k + 1) * 5 + i) u = z.cells ++ L.set (k * 5 + i) u := fun L i u => by
        rw [List.set_append_right _ _ (by simp; omega)]
        congr 2
        simp; omega
      rw [e, e, e, e]
/-! ### Norm -/
end Go.Proofs.YtpncmdlbmnmahaaGreat

/- Contract of clause's Tautology. -/
namespace Go.Proofs.YtpncmdlbmnmahaaGreat
set_option linter.unusedVariables false
set_option linter.unusedSimpArgs false
open Go.RowKit
theorem IsCl.take {n₀ : Nat} {w : World} {P : List LV} {a : Option Addr} {c : Nat} (h : IsCl n₀ w P a c) (k : Nat) : IsCl n₀ w (P.take k) a c := by
  obtain ⟨h1, h2, h3⟩ := h
  refine ⟨Nat.le_trans (by simp; omega) h1, h2, ?_⟩
  rcases h3 with rfl | ⟨b, o, h4, h5, h6⟩
  · exact .inl (by simp)
  · exact .inr ⟨b, o, h4, h5, fun j x hx => h6 j x (by
      rw [List.getElem?_take] at hx
      split at hx
      · exact hx
      · cases hx)⟩
end Go.Proofs.YtpncmdlbmnmahaaGreat

/- Contracts of clause's notValid, firstFree, shifted and Apart. -/
namespace Go.Proofs.YtpncmdlbmnmahaaGreat
set_option linter.unusedVariables false
set_option linter.unusedSimpArgs false
open Go.RowKit
/-! ### Plain facts -/
/-! ### notValid -/
/-! ### firstFree -/
/-! ### shifted -/
theorem RowVals.mono {ok ok' : Nat → Prop} {w : World} {U : List T} {xs : List Value} (h : RowVals ok w U xs) (hm : ∀ b, ok b → ok' b) : RowVals ok' w U xs := h.keep (fun _ _ => rfl) hm
/-! ### Apart -/
end Go.Proofs.YtpncmdlbmnmahaaGreat

/- The document's example of layer 10. -/
namespace Go.Proofs.YtpncmdlbmnmahaaGreat
set_option linter.unusedVariables false
set_option linter.unusedSimpArgs false
open Go.RowKit
def V10 : T := .node (-4) []
def F10 : T := .node 2 [V10]
def X10 (br : Nat) : LV := ⟨false, A9, F10, none, 0, some ⟨br, 0, none⟩, 1⟩
/-- A row of literals in a block of its own. -/
theorem cl_cs {b : Nat} {P : List LV} {X : World} (h : Cs b (lcells P) X) (hl : P.length ≤ maxLen) (hp : ∀ x ∈ P, IsLv X.heap.size X x) : IsCl X.heap.size X P (some ⟨b, 0, none⟩) P.length := by
  refine ⟨Nat.le_refl _, hl, .inr ⟨b, 0, rfl, h.1, fun j x hx => ⟨?_, hp x (List.mem_of_getElem? hx)⟩⟩⟩
  obtain ⟨g0, g1, g2, g3, g4⟩ := lcells_get hx
  rw [Nat.zero_add]
  exact ⟨h.2 _ _ g0, h.2 _ _ g1, h.2 _ _ g2, h.2 _ _ g3, h.2 _ _ g4⟩
/-- What region 3 leaves: a new variable that holds the literal. -/
def Cut10 (w2 : World) (v3 : Value) (wx : World) : Prop := ∃ bt br : Nat, v3 = .pointer (some ⟨bt, 0, none⟩) ∧ bt < wx.heap.size ∧ Lc bt (X10 br) wx ∧ Cs br [.int .i64 (-4), .slice none 0 0] wx ∧ Below w2.heap.size w2 wx
theorem cut10_new {w2 u : World} {br : Nat} (h1 : Cs br [.int .i64 (-4), .slice none 0 0] u) (hb : Below w2.heap.size w2 u) :
    Cut10 w2 (.pointer (some ⟨u.heap.size, 0, none⟩)) (u.alloc (.cells #[.bool false, .int .i64 1, .slice none 0 0, .int .i64 2, .slice (some ⟨br, 0, none⟩) 1 1] 44)) :=
  ⟨_, br, rfl, by simp, (later_lc u (X10 br)).now, h1.al _, blAl hb _⟩
theorem zbHave {P : Prop} {W X : World} {b : Nat} (h : Zb b W) (hb : Below W.heap.size W X) (k : Hid (Zb b X) → (∃ v0 v1 v2 v3 v4 : Value, X.cell? ⟨b, 0, none⟩ = some v0 ∧ X.cell? ⟨b, 1, none⟩ = some v1 ∧ X.cell? ⟨b, 2, none⟩ = some v2 ∧ X.cell? ⟨b, 3, none⟩ = some v3 ∧ X.cell? ⟨b, 4, none⟩ = some v4 ∧ X.frozen? ⟨b, 0, none⟩ = false ∧ X.frozen? ⟨b, 1, none⟩ = false ∧ X.frozen? ⟨b, 2, none⟩ = false ∧ X.frozen? ⟨b, 3, none⟩ = false ∧ X.frozen? ⟨b, 4, none⟩ = false) → P) : P := k (Lib.hid (h.bl hb)) (h.bl hb).all
theorem Zb.new' {W : World} {b : Nat} {ob : Obj} (h : W.heap.size = b) (hc : ob = .cells #[.bool false, .int .i64 0, .slice none 0 0, .int .i64 0, .slice none 0 0] 44) : Zb b (W.alloc ob) := by
  subst h; subst hc; exact Zb.new _ _ _ _ _ _
theorem Zb.al {W : World} {b : Nat} (h : Zb b W) (ob : Obj) : Zb b (W.alloc ob) := h.bl ((Below.refl _ _).alloc (Nat.le_refl _) _)
end Go.Proofs.YtpncmdlbmnmahaaGreat

/- Reading lists of bindings out of memory. -/
namespace Go.Proofs.YtpncmdlbmnmahaaGreat
set_option linter.unusedVariables false
set_option linter.unusedSimpArgs false
set_option maxRecDepth 100000
open Go.ChangeShapes Go.WideShapes Go.ChangeAt Go.RowKit Go.Joins
theorem cellsBind : Tryz.prog.cellsOf 53 = 3 := by kernel_rfl
section
variable {H : Type} {enc : TypeId × Value → H} {w : World} {sp : Nat → Bool} {hd : Bool}
theorem trod_bind {n : Nat} {cs : List Value} {x : DataW H × List MemPlace} (h : DataW.trod enc Tryz.prog w 0 sp hd n 53 cs = some x) :
    ∃ (v : Int) (t : T) (a : Option Addr) (c : Nat), cs = [.int .i64 v, .int .i64 t.head, .slice a t.args.length c] ∧ (Lit.int .i64 v).wf = true ∧ (Lit.int .i64 t.head).wf = true ∧ IsArgs w.heap.size w t.args a c := by
  obtain ⟨xs, m, hm, _, hl, hxs, hf⟩ := DataW.trod_struct Tryz.underlying53 h
  rw [cellsBind] at hl
  match cs, hl with
  | [c0, c1, c2], _ =>
    match xs, hxs with
    | [y0, y1], _ =>
      have h0 := hf 0 _ rfl
      have h1 := hf 1 _ rfl
      simp [cellsInt, cellsTerm] at h0 h1
      obtain ⟨k, e0, _, wf⟩ := DataW.trod_int Tryz.underlying3 h0
      obtain ⟨t, a, c, e1, wf', hA⟩ := (trod_terms _).1 h1
      simp at e0 e1
      obtain ⟨rfl, rfl⟩ := e1
      subst e0
      exact ⟨k, t, a, c, rfl, wf, wf', hA⟩
theorem trod_bs {n : Nat} {cs : List Value} {x : DataW H × List MemPlace} (h : DataW.trod enc Tryz.prog w 0 sp hd n 24 cs = some x) : ∃ (s : Sb) (a : Option Addr) (c : Nat), cs = [.slice a s.length c] ∧ IsBs w.heap.size w s a c := by
  rcases DataW.trod_slice Tryz.underlying24 h with ⟨rfl, _⟩ | ⟨a, len, cap, elems, rest, m, hm, rfl, _, _, hlc, hcm, hel, hcell, _, _⟩
  · exact ⟨[], none, 0, rfl, ⟨Nat.le_refl _, by simp [maxLen], .inl rfl⟩⟩
  · cases len with
    | zero => exact ⟨[], some a, cap, rfl, ⟨hlc, hcm, .inl rfl⟩⟩
    | succ len =>
      have each : ∀ i, i < len + 1 → ∃ (v : Int) (t : T) (a' : Option Addr) (c : Nat), w.cell? ((a.add (i * 3)).add 0) = some (.int .i64 v) ∧ w.cell? ((a.add (i * 3)).add 1) = some (.int .i64 t.head) ∧ w.cell? ((a.add (i * 3)).add 2) = some (.slice a' t.args.length c) ∧ (Lit.int .i64 v).wf = true ∧ (Lit.int .i64 t.head).wf = true ∧ IsArgs w.heap.size w t.args a' c := by
        intro i hi
        have h1 := hcell i hi
        rw [List.getElem?_eq_getElem (by omega), cellsBind, Option.bind_eq_some_iff] at h1
        obtain ⟨cs, hcs, ht⟩ := h1
        obtain ⟨v, t, a', c, rfl, wf, wf', hA⟩ := trod_bind ht
        refine ⟨v, t, a', c, ?_, ?_, ?_, wf, wf', hA⟩
        · exact mapM_some_get (by simpa [World.cells?] using hcs) 0 0 rfl
        · exact mapM_some_get (by simpa [World.cells?] using hcs) 1 1 rfl
        · exact mapM_some_get (by simpa [World.cells?] using hcs) 2 2 rfl
      obtain ⟨b, o, spot⟩ := a
      have hspot : spot = none := by
        obtain ⟨v, t, a', c, h1, _⟩ := each 0 (by omega)
        cases spot with
        | none => rfl
        | some k => unfold World.cell? at h1; simp [Addr.add] at h1; split at h1 <;> simp at h1
      subst hspot
      simp only [add_none, Nat.add_zero] at each
      have hlt : b < w.heap.size := by
        obtain ⟨v, t, a', c, h1, _⟩ := each 0 (by omega)
        exact lt_of_cell h1
      have hall : ∀ (n o : Nat), (∀ i, i < n → ∃ x : Int × T, IsB w.heap.size w x b (o + i * 3)) → ∃ s : Sb, s.length = n ∧ ∀ (j : Nat) (x : Int × T), s[j]? = some x → IsB w.heap.size w x b (o + j * 3) := by
        intro n
        induction n with
        | zero => intro o _; exact ⟨[], rfl, by simp⟩
        | succ n ih =>
          intro o h
          obtain ⟨z, hz⟩ := h 0 (by omega)
          obtain ⟨zs, hl, hr⟩ := ih (o + 3) (fun i hi => by
            obtain ⟨y, hy⟩ := h (i + 1) (by omega)
            exact ⟨y, by rw [show o + 3 + i * 3 = o + (i + 1) * 3 from by omega]; exact hy⟩)
          refine ⟨z :: zs, by simp [hl], fun j y hj => ?_⟩
          cases j with
          | zero => simp at hj; subst hj; simpa using hz
          | succ j => rw [show o + (j + 1) * 3 = o + 3 + j * 3 from by omega]; exact hr j y (by simpa using hj)
      obtain ⟨s, hl, hr⟩ := hall (len + 1) o (fun i hi => by
        obtain ⟨v, t, a', c, h0, h1, h2, wf, wf', hA⟩ := each i hi
        exact ⟨(v, t), wf, h0, isT_iff.2 ⟨wf', h1, a', c, h2, hA⟩⟩)
      exact ⟨s, some ⟨b, o, none⟩, cap, by rw [hl], ⟨by omega, hcm, .inr ⟨b, o, rfl, hlt, hr⟩⟩⟩
/-- An argument of type []Bind. -/
theorem open_bs {r : Reach} {b0 : Nat} {v : Value} {d : DataW H} {p : List MemPlace} (hv : Value.okWide Tryz.prog w r b0 24 v) (h : DataW.Trod enc Tryz.prog w 0 sp hd 24 v d p) :
    ∃ (s : Sb) (a : Option Addr) (c : Nat), v = .slice a s.length c ∧ IsBs w.heap.size w s a c := by
  obtain ⟨a, len, cap, rfl⟩ := okWide_slice Tryz.underlying24 hv
  obtain ⟨n, hn⟩ := h
  obtain ⟨s, a', c, e, hA⟩ := trod_bs hn
  simp [Value.cells] at e
  obtain ⟨rfl, rfl, rfl⟩ := e
  exact ⟨s, a, cap, rfl, hA⟩
end
end Go.Proofs.YtpncmdlbmnmahaaGreat

/- Contract of lit's Apply: where the answer lies. -/
namespace Go.Proofs.YtpncmdlbmnmahaaGreat
set_option linter.unusedVariables false
set_option linter.unusedSimpArgs false
open Go.RowKit
def LePostF (n₀ : Nat) (n : Bool) (l r : T) (k : Int) (w : World) (e : Ending) (w' : World) : Prop :=
  ∃ z : LV, e = .returned (.tuple #[z.v, .int .i64 k]) ∧ z.n = n ∧ z.l = l ∧ z.r = r ∧ IsLvp (fun b => (b < n₀ ∨ w.heap.size ≤ b) ∧ b < w'.heap.size) w' z ∧ Below w.heap.size w w'
/-- Terms that lie in the caller's blocks or in new ones, and don't reach a block: they last, whatever becomes of it. -/
def Knf (n₀ m b0 : Nat) (u : World) (ts : List T) (a : Option Addr) (c : Nat) : Prop := ∀ X : World, u.heap.size ≤ X.heap.size → (∀ b, b ≠ b0 → b < u.heap.size → X.heap[b]? = u.heap[b]?) → IsArgsp (fun b => (b < n₀ ∨ m ≤ b) ∧ b < X.heap.size) X ts a c
theorem knf_of {n₀ m m' b0 : Nat} {u : World} {ts : List T} {a : Option Addr} {c : Nat} (h : IsArgsp (fun b => (b < n₀ ∨ m' ≤ b) ∧ b < u.heap.size) u ts a c) (h1 : n₀ ≤ b0) (h2 : b0 < m') (h3 : m ≤ m') : Knf n₀ m b0 u ts a c := fun X hs hb =>
  h.keep (ok' := fun b => (b < n₀ ∨ m ≤ b) ∧ b < X.heap.size) (fun b hk => hb b (by have := hk.1; omega) hk.2) (fun b hk => ⟨by have := hk.1; omega, Nat.lt_of_lt_of_le hk.2 hs⟩)
theorem Knf.mv {n₀ m b0 : Nat} {u v : World} {ts : List T} {a : Option Addr} {c : Nat} (h : Knf n₀ m b0 u ts a c) (hb : Below u.heap.size u v) : Knf n₀ m b0 v ts a c := fun X hs hx =>
  h X (Nat.le_trans hb.size hs) fun b h1 h2 => (hx b h1 (Nat.lt_of_lt_of_le h2 hb.size)).trans (hb.block b h2)
theorem Knf.sets {n₀ m b : Nat} {u : World} {ts : List T} {a : Option Addr} {c : Nat} (h : Knf n₀ m b u ts a c) (v0 v1 v2 v3 v4 : Value) :
    IsArgsp (fun k => (k < n₀ ∨ m ≤ k) ∧ k < (((((u.setCell ⟨b, 0, none⟩ v0).setCell ⟨b, 1, none⟩ v1).setCell ⟨b, 2, none⟩ v2).setCell ⟨b, 3, none⟩ v3).setCell ⟨b, 4, none⟩ v4).heap.size) (((((u.setCell ⟨b, 0, none⟩ v0).setCell ⟨b, 1, none⟩ v1).setCell ⟨b, 2, none⟩ v2).setCell ⟨b, 3, none⟩ v3).setCell ⟨b, 4, none⟩ v4) ts a c :=
  h _ (by simp) fun k hne h2 => by
    rw [Below.heap_setCell _ _ _ _ hne, Below.heap_setCell _ _ _ _ hne, Below.heap_setCell _ _ _ _ hne, Below.heap_setCell _ _ _ _ hne, Below.heap_setCell _ _ _ _ hne]
theorem lvp_zero (ok : Nat → Prop) (w : World) : IsLvp ok w LV.zero := ⟨(show (Lit.int .i64 0).wf = true from by decide), (show (Lit.int .i64 0).wf = true from by decide), ⟨by simp [LV.zero, T.args], by simp [LV.zero, maxLen], .inl rfl⟩, ⟨by simp [LV.zero, T.args], by simp [LV.zero, maxLen], .inl rfl⟩⟩
set_option maxRecDepth 100000 in
set_option maxHeartbeats 8000000 in
theorem litApplyF_any (s : Sb) (hsz : ∀ x ∈ s, x.2.size ≤ 1000000000000) (x : LV) (hx : x.sz) (n₀ : Nat) (a : Option Addr) (c : Nat) (w : World) (hn : n₀ ≤ w.heap.size) (hS : IsBs n₀ w s a c) (hX : IsLv n₀ w x) :
    Calls Tryz.prog 38 #[.slice a s.length c, x.v] w (LePostF n₀ (apN s x) (apL s x) (apR s x) (apK s x) w) := by
  have C1 := Lib.hid (fun (W : World) (hW : Below w.heap.size w W) => applyF_any s hsz x.l hx.1 n₀ a c x.pa x.ca W (Nat.le_trans hn hW.size) (hS.below (hW.mono hn)) hX.lw (hX.below (hW.mono hn)).la)
  have C2 := Lib.hid (fun (W : World) (hW : Below w.heap.size w W) => applyF_any s hsz x.r hx.2 n₀ a c x.pb x.cb W (Nat.le_trans hn hW.size) (hS.below (hW.mono hn)) hX.rw (hX.below (hW.mono hn)).ra)
  have d0 := ((Later.below (Below.refl _ w)).pushB (Below.refl _ _) x).pushB (Below.refl _ _) LV.zero
  simp only [heap_alloc_size] at d0
  have D := Lib.hid d0
  clear d0 hS hX hsz hx
  have hs1 : ((w.alloc x.obj).alloc LV.zero.obj).heap.size = w.heap.size + 2 := by simp
  obtain ⟨w1, hw1⟩ : ∃ w1, (w.alloc x.obj).alloc LV.zero.obj = w1 := ⟨_, rfl⟩
  rw [hw1] at D hs1
  have hw1' : (w.alloc x.obj).alloc (.cells #[.bool false, .int .i64 0, .slice none 0 0, .int .i64 0, .slice none 0 0] 44) = w1 := hw1
  have HW1 := Lib.hid hw1'
  clear hw1 hw1'
  go_enter Tryz.func38, Tryz.ntmps38
  go_wp2_with fail
  rw [HW1.out]
  clear HW1
  refine (C1.out w1 D.out.now.2.2).mono ?_
  rintro e w2 ⟨a2, c2, rfl, hwf2, hA2, hb2⟩
  have hs2 := hb2.size
  obtain ⟨w3, hw3⟩ : ∃ w3, w2.alloc (tmCells (appT s x.l).head a2 (appT s x.l).args.length c2) = w3 := ⟨_, rfl⟩
  have hb3 : Below w2.heap.size w2 w3 := by rw [← hw3]; exact (Below.refl _ _).alloc (Nat.le_refl _) _
  have hs3 := hb3.size
  have d3 := (D.out.mv hb2).push (Below.refl _ _) (appT s x.l).head a2 (appT s x.l).args.length c2
  rw [hw3] at d3
  have D3 := Lib.hid d3
  have KA := Lib.hid ((knf_of (b0 := w.heap.size + 1) (m := w.heap.size) hA2 (by omega) (by omega) (by omega)).mv hb3)
  have HWF2 := Lib.hid hwf2
  clear d3 hb2 hb3 hA2 hwf2 D C1
  by_cases h1 : appE s x.l = 0
  case neg =>
    obtain ⟨k, hk⟩ : ∃ k, appE s x.l = k := ⟨_, rfl⟩
    have HE := Lib.hid (ap_bad (s := s) (x := x) (k := k) (by unfold apK; rw [if_neg h1]; exact hk) (by rw [← hk]; exact h1))
    have HQ := Lib.hid D3.out.now.2.2.2
    have hz := D3.out.now.2.1
    obtain ⟨z0, z1, z2, z3, z4⟩ := hz.lc
    obtain ⟨q0, q1, q2, q3, q4⟩ := hz.lf
    simp only [LV.zero, T.head, T.args, List.length_nil] at z0 z1 z2 z3 z4
    clear hz
    rw [hk] at h1 ⊢
    have h2 : (k != 0) = true := by simpa using h1
    clear h1 hk D3 KA
    go_wp2
    refine bodyPost_ret (v := .tuple #[LV.zero.v, .int .i64 k]) (by simp [results, Tryz.results38, go_sem, z0, z1, z2, z3, z4, LV.zero, T.head, T.args]) rfl ?_
    exact ⟨LV.zero, by rw [HE.out.2.2.2], HE.out.1.symm, HE.out.2.1.symm, HE.out.2.2.1.symm, lvp_zero _ _, bl_sets HQ.out (by omega) _ _ _ _ _⟩
  have H1 := Lib.hid h1
  rw [h1]
  clear h1
  obtain ⟨x0, x1, x2, x3, x4⟩ := D3.out.now.2.2.1.lc
  go_wp2_with fail
  clear x0 x1 x2 x3 x4
  refine (C2.out w3 D3.out.now.2.2.2).mono ?_
  rintro e w4 ⟨a4, c4, rfl, hwf4, hA4, hb4⟩
  have hs4 := hb4.size
  obtain ⟨w5, hw5⟩ : ∃ w5, w4.alloc (tmCells (appT s x.r).head a4 (appT s x.r).args.length c4) = w5 := ⟨_, rfl⟩
  have hb5 : Below w4.heap.size w4 w5 := by rw [← hw5]; exact (Below.refl _ _).alloc (Nat.le_refl _) _
  have hs5 := hb5.size
  have d5 := (D3.out.mv hb4).push (Below.refl _ _) (appT s x.r).head a4 (appT s x.r).args.length c4
  rw [hw5] at d5
  have D5 := Lib.hid d5
  have KB := Lib.hid ((knf_of (b0 := w.heap.size + 1) (m := w.heap.size) hA4 (by omega) (by omega) (by omega)).mv hb5)
  have KA5 := Lib.hid ((KA.out.mv hb4).mv hb5)
  have HWF4 := Lib.hid hwf4
  clear d5 hb4 hb5 hA4 hwf4 D3 C2 KA hw3
  have hz := D5.out.now.2.2.1
  have hxx := D5.out.now.2.2.2.1
  obtain ⟨z0, z1, z2, z3, z4⟩ := hz.lc
  obtain ⟨q0, q1, q2, q3, q4⟩ := hz.lf
  simp only [LV.zero, T.head, T.args, List.length_nil] at z0 z1 z2 z3 z4
  have HQ := Lib.hid D5.out.now.2.2.2.2
  by_cases h2 : appE s x.r = 0
  case neg =>
    obtain ⟨k, hk⟩ : ∃ k, appE s x.r = k := ⟨_, rfl⟩
    have HE := Lib.hid (ap_bad (s := s) (x := x) (k := k) (by unfold apK; rw [if_pos H1.out]; exact hk) (by rw [← hk]; exact h2))
    clear hz hxx
    rw [hk] at h2 ⊢
    have h3 : (k != 0) = true := by simpa using h2
    clear h2 hk D5 KB KA5
    go_wp2
    refine bodyPost_ret (v := .tuple #[LV.zero.v, .int .i64 k]) (by simp [results, Tryz.results38, go_sem, z0, z1, z2, z3, z4, LV.zero, T.head, T.args]) rfl ?_
    exact ⟨LV.zero, by rw [HE.out.2.2.2], HE.out.1.symm, HE.out.2.1.symm, HE.out.2.2.1.symm, lvp_zero _ _, bl_sets HQ.out (by omega) _ _ _ _ _⟩
  have HE := Lib.hid (ap_ok (s := s) (x := x) (by unfold apK; rw [if_pos H1.out]; exact h2))
  rw [h2]
  clear h2
  obtain ⟨x0, _, _, _, _⟩ := hxx.lc
  obtain ⟨⟨u0, u1⟩, ⟨v0, v1⟩, _⟩ := D5.out.now
  clear hz hxx D5
  generalize appT s x.l = y1 at HE HWF2 KA5 v0 v1 ⊢
  generalize appT s x.r = y2 at HE HWF4 KB u0 u1 hw5 ⊢
  go_wp2
  refine bodyPost_ret (v := .tuple #[(LV.mk x.n y1 y2 a2 c2 a4 c4).v, .int .i64 0]) (by simp [results, Tryz.results38, go_sem, z0, z1, z2, z3, z4]) rfl ?_
  exact ⟨LV.mk x.n y1 y2 a2 c2 a4 c4, by rw [HE.out.2.2.2], HE.out.1.symm, HE.out.2.1.symm, HE.out.2.2.1.symm, ⟨HWF2.out, HWF4.out, KA5.out.sets _ _ _ _ _, KB.out.sets _ _ _ _ _⟩, bl_sets HQ.out (by omega) _ _ _ _ _⟩
end Go.Proofs.YtpncmdlbmnmahaaGreat
