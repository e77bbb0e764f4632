/- QBl: joined of Nrm, Rs0, Nu, No10, Ss0, Va1, Nr1, No5, Kn. -/
import Derived.Test.YtbdabdjpgmnejaaQBk
import Derived.Test.YtbdabdjpgmnejaaQBe
import Derived.Test.YtbdabdjpgmnejaaQBc
import Derived.Test.YtbdabdjpgmnejaaQBg
import Derived.Test.YtbdabdjpgmnejaaQBd
import Derived.Test.YtbdabdjpgmnejaaQBf
import Derived.StillTailTactics
import Derived.Deep.AppendLies
import Derived.Deep.RegionHeld3
import Derived.Deep.RegionLaw
import Derived.Deep.CutRange
import Derived.Test.YtbdabdjpgmnejaaSam0
import Derived.Test.YtbdabdjpgmnejaaQBj
import Derived.Test.YtbdabdjpgmnejaaQBa
import Derived.BigQuiet
import Derived.Deep.QuietTactic
import Derived.Lib.QuietBelow
import Derived.OwnWalk
import Derived.IntWalk
/- Contracts of renaming.list and of Norm. -/
namespace Go.Proofs.Ytbdabdjpgmnejaa
set_option linter.unusedVariables false
set_option linter.unusedSimpArgs false
open Go.RowKit
abbrev fvN (Bp : Nat) : Value := .func (.func 67) #[] #[.pointer (some ⟨Bp, 0, none⟩)]
structure NlI (n₀ Bp Bm : Nat) (ts : List T) (N : List Int) (w w3 : World) (g k : Nat) (vs os sp : List Value) (cur : Array Value) (wr : World) : Prop where
  blk : wr.heap[g]? = some (.cells cur 28 (0, 0))
  cells : cur.toList = vs ++ (os ++ sp)
  new : RowVals (fun b => w.heap.size + 1 ≤ b ∧ b < wr.heap.size ∧ b ≠ g) wr (T.nrms (ts.take k) N).1 vs
  old : RowVals (· < n₀) wr (ts.drop k) os
  num : NumR wr Bp Bm (T.nrms (ts.take k) N).2
  size : w3.heap.size ≤ wr.heap.size
  keep : ∀ b, b < w3.heap.size → b ≠ g → b ≠ Bm → wr.heap[b]? = w3.heap[b]?
  env : wr.os = w3.os ∧ wr.tape = w3.tape ∧ wr.output = w3.output
def NlX (n₀ Bp Bm : Nat) (ts : List T) (N : List Int) (w w3 : World) (g : Nat) (i : Value) (wr : World) : Prop := ∃ (k : Nat) (vs os sp : List Value) (cur : Array Value), k ≤ ts.length ∧ i = .int .i64 k ∧ NlI n₀ Bp Bm ts N w w3 g k vs os sp cur wr
theorem nl_step {n₀ Bp Bm : Nat} {ts : List T} {N : List Int} {w w3 wr w5 w6 : World} {g k : Nat} {h0 s0 : Value} {vs os sp : List Value} {cur cur' : Array Value} {x s : T} {a : Option Addr} {c : Nat} {ob : Obj} (hn : n₀ ≤ Bm) (hBm : Bm < w.heap.size) (hBp : Bp < w.heap.size) (hgw : w.heap.size + 1 ≤ g) (I : NlI n₀ Bp Bm ts N w w3 g k vs (h0 :: s0 :: os) sp cur wr) (hk : ts[k]? = some s) (hz : w.heap.size + 1 ≤ wr.heap.size)
    (hx : (s.nrm (T.nrms (ts.take k) N).2).1 = x) (hxw : (Lit.int .i64 x.head).wf = true) (hg5 : (wr.alloc ob).grownBy w5 (some Bm)) (hN : NumR w5 Bp Bm (s.nrm (T.nrms (ts.take k) N).2).2)
    (hA : IsArgsp (fun b => (wr.alloc ob).heap.size ≤ b ∧ b < w5.heap.size) w5 x.args a c) (h6g : w6.heap[g]? = some (.cells cur' 28 (0, 0))) (h6c : cur'.toList = (vs ++ [.int .i64 x.head, .slice a x.args.length c]) ++ (os ++ sp))
    (h6o : ∀ b, b ≠ g → w6.heap[b]? = w5.heap[b]?) (h6s : w6.heap.size = w5.heap.size) (h6e : w6.os = w5.os ∧ w6.tape = w5.tape ∧ w6.output = w5.output) :
    NlI n₀ Bp Bm ts N w w3 g (k + 1) (vs ++ [.int .i64 x.head, .slice a x.args.length c]) os sp cur' w6 := by
  have hgl : g < wr.heap.size := (Array.getElem?_eq_some_iff.1 I.blk).1
  have hz5 := hg5.size
  rw [heap_alloc_size] at hz5
  have h5 : ∀ b, b < wr.heap.size → b ≠ Bm → w5.heap[b]? = wr.heap[b]? := fun b hb hne => (hg5.block b (by simp; omega) (by simpa using hne)).trans (Below.heap_alloc _ _ _ hb)
  refine ⟨h6g, h6c, ?_, ?_, ?_, ?_, ?_, ?_⟩
  · rw [T.nrms_take hk, hx]
    refine RowVals.snoc hxw (hA.keep (fun b hb => h6o b (by have := hb.1; rw [heap_alloc_size] at this; omega)) (fun b hb => ?_)) (I.new.keep (fun b hb => (h6o b hb.2.2).trans (h5 b hb.2.1 (by have := hb.1; omega))) (fun b hb => ⟨hb.1, by have := hb.2.1; omega, hb.2.2⟩))
    have h1 := hb.1
    have h2 := hb.2
    rw [heap_alloc_size] at h1
    exact ⟨by omega, by omega, by omega⟩
  · have i4 := I.old
    rw [List.drop_eq_getElem_cons (List.getElem?_eq_some_iff.1 hk).1] at i4
    exact RowVals.keep (fun b hb => (h6o b (by omega)).trans (h5 b (by omega) (by omega))) (fun b hb => hb) i4.2.2.2
  · rw [T.nrms_take hk]
    have hl := I.num.lt
    exact hN.kept (h6o _ (by omega)) (h6o _ (by omega))
  · have := I.size; omega
  · intro b hb h1 h2
    exact (h6o b h1).trans ((h5 b (by have := I.size; omega) h2).trans (I.keep b hb h1 h2))
  · obtain ⟨e1, e2, e3⟩ := I.env
    refine ⟨h6e.1.trans (hg5.os.trans ?_), h6e.2.1.trans (hg5.tape.trans ?_), h6e.2.2.trans (hg5.output.trans ?_)⟩
    · exact e1
    · exact e2
    · exact e3
def NlPost (Bp Bm : Nat) (r : List T × List Int) (w : World) (e : Ending) (w' : World) : Prop :=
  ∃ a2 c2, e = .returned (.slice a2 r.1.length c2) ∧ IsArgsp (fun b => w.heap.size ≤ b ∧ b < w'.heap.size) w' r.1 a2 c2 ∧ NumR w' Bp Bm r.2 ∧ w.grownBy w' (some Bm)
def NlistAny (Bp Bm S : Nat) : Prop := ∀ (ts : List T), T.sizes ts ≤ S → T.sizes ts ≤ 100000 → (∀ t ∈ ts, bad (T.subs 1 t) = false) → ∀ (N : List Int), N.length + T.sizes ts ≤ 500000 → ∀ (n₀ : Nat) (a : Option Addr) (c : Nat) (w : World), n₀ ≤ Bm → NumR w Bp Bm N → IsArgs n₀ w ts a c →
    Calls Try.prog 54 #[.agg #[fvN Bp], .slice a ts.length c] w (NlPost Bp Bm (T.nrms ts N) w)
set_option maxRecDepth 100000 in
set_option maxHeartbeats 4000000 in
theorem nlist_step (Bp Bm S : Nat) (ih : ∀ S', S' < S → NlistAny Bp Bm S') : NlistAny Bp Bm S := by
  intro ts hS hbig hgd N hNl n₀ a c w hn hR hA
  have IH := Lib.hid ih
  have HGD := Lib.hid hgd
  have HR := Lib.hid hR
  obtain ⟨hBp, hBm⟩ := hR.lt
  have hlz := T.sizes_ge_length ts
  have hlc : ts.length ≤ c ∧ c ≤ maxLen := ⟨hA.1, hA.2.1⟩
  unfold maxLen at hlc
  obtain ⟨hl1, hl2⟩ := hlc
  have hb1 : Below w.heap.size w (w.alloc (.cells #[fvN Bp] 80)) := (Below.refl _ w).alloc (Nat.le_refl _) _
  have CL := Lib.hid (clone_any ts (by omega) n₀ a c (w.alloc (.cells #[fvN Bp] 80)) (by simp; omega) (hA.below (hb1.mono (by omega))))
  have HB1 := Lib.hid hb1
  clear ih hgd hR hA hb1
  go_enter Try.func54, Try.ntmps54
  go_wp2_with fail
  refine CL.out.mono ?_
  rintro e w3 ⟨a2, c2, rfl, ⟨hn1, hn2, hnr⟩, hb3⟩
  rw [heap_alloc_size] at hb3 hnr
  have hbx : w3.cell? ⟨w.heap.size, 0, none⟩ = some (fvN Bp) := (hb3.cell (p := ⟨w.heap.size, 0, none⟩) (by simp)).trans (by simp [go_sem])
  have hB3 : Below w.heap.size w w3 := HB1.out.trans (hb3.mono (by omega))
  have hz3 : w.heap.size + 1 ≤ w3.heap.size := by have := hb3.size; simpa using this
  have HR3 := Lib.hid (HR.out.below hB3)
  have HB3 := Lib.hid hB3
  clear hb3 hB3
  rcases hnr with hnil | ⟨g, cur, rfl, hg, hgb, hgs, hrow⟩
  · subst hnil
    clear hn1
    go_wp2
    go_loopw [6, 7, 12] (fun _ _ i wr => i = .int .i64 0 ∧ wr = w3) (fun _ _ _ _ => 0)
    case atStart => exact ⟨rfl, rfl⟩
    case round =>
      obtain ⟨rfl, rfl⟩ := hrel
      go_wp2
      go_ret
      exact ⟨a2, c2, rfl, ⟨by simp [T.nrms], hn2, .inl rfl⟩, HR3.out, grown_of_below HB3.out⟩
  · obtain ⟨os, hos, hoc, _⟩ := rowVals_of ts 0 ((isRowp_lt _).2 hrow)
    obtain ⟨sp, hsp⟩ := row_split hgb hoc
    have HST := Lib.hid (show NlX n₀ Bp Bm ts N w w3 g (.int .i64 ((0 : Nat) : Int)) w3 from ⟨0, [], os, sp, cur, Nat.zero_le _, rfl, hgb, hsp, by simp [T.nrms, RowVals], hos, HR3.out, Nat.le_refl _, fun _ _ _ _ => rfl, rfl, rfl, rfl⟩)
    have HBX := Lib.hid hbx
    clear hos hoc hsp hgb hrow CL hgs hbx
    unfold maxLen at hn2
    go_wp2
    go_loopw [6, 7, 12] (fun _ _ i wr => NlX n₀ Bp Bm ts N w w3 g i wr) (fun _ _ i _ => ts.length - (intOf i).toNat)
    case atStart => exact HST.out
    case round =>
      obtain ⟨k, vs, os, sp, cur, hk, rfl, hI⟩ := hrel
      have HI := Lib.hid hI
      have hzw := hI.size
      have hgw : g < wr.heap.size := (Array.getElem?_eq_some_iff.1 hI.blk).1
      have hbx : wr.cell? ⟨w.heap.size, 0, none⟩ = some (fvN Bp) := (World.cell?_of_block (a := ⟨w.heap.size, 0, none⟩) (hI.keep w.heap.size (by omega) (by omega) (by omega))).trans HBX.out
      have hvl := hI.new.length
      rw [T.nrms_length, List.length_take, Nat.min_eq_left hk] at hvl
      by_cases hlt : k < ts.length
      · obtain ⟨s, hs⟩ : ∃ s, ts[k]? = some s := ⟨_, List.getElem?_eq_getElem hlt⟩
        have hold := hI.old
        rw [List.drop_eq_getElem_cons hlt, (List.getElem?_eq_some_iff.1 hs).2] at hold
        obtain ⟨os', a', c', rfl, hsw, hA'⟩ : ∃ os' a' c', os = .int .i64 s.head :: .slice a' s.args.length c' :: os' ∧ (Lit.int .i64 s.head).wf = true ∧ IsArgs n₀ wr s.args a' c' := by
          match os, hold with
          | h0 :: s0 :: os', ⟨q1, q2, ⟨a', c', q3, q4⟩, _⟩ => exact ⟨os', a', c', by rw [q2, q3], q1, isArgsp_lt.1 q4⟩
        have g0 : wr.cell? ⟨g, k * 2, none⟩ = some (.int .i64 s.head) := cell_of_split hI.blk hI.cells (by rw [List.getElem?_append_right (by omega), show k * 2 - vs.length = 0 from by omega]; rfl)
        have g1 : wr.cell? ⟨g, k * 2 + 1, none⟩ = some (.slice a' s.args.length c') := cell_of_split hI.blk hI.cells (by rw [List.getElem?_append_right (by omega), show k * 2 + 1 - vs.length = 1 from by omega]; rfl)
        have f0 : wr.frozen? ⟨g, k * 2, none⟩ = false := by simp [World.frozen?, hI.blk]
        have f1 : wr.frozen? ⟨g, k * 2 + 1, none⟩ = false := by simp [World.frozen?, hI.blk]
        have hk0 : (0 : Int) ≤ (k : Int) := Int.natCast_nonneg _
        have hk1 : (k : Int) < (ts.length : Int) := by omega
        have hsg := HGD.out s (List.mem_of_getElem? hs)
        have hsl := sizes_take_lt hs
        have hNk := T.nrms_len (ts.take k) N
        obtain ⟨Nk, hNk'⟩ : ∃ Nk, (T.nrms (ts.take k) N).2 = Nk := ⟨_, rfl⟩
        have hnum := hI.num
        rw [hNk'] at hnum hNk
        have NKL := Lib.hid (show Nk.length ≤ 500000 from by omega)
        have hB4 : Below wr.heap.size wr (wr.alloc (.cells #[.int .i64 s.head, .slice a' s.args.length c'] 28)) := (Below.refl _ _).alloc (Nat.le_refl _) _
        have HS := Lib.hid hs
        have HNK := Lib.hid hNk'
        have hz4 : (wr.alloc (.cells #[.int .i64 s.head, .slice a' s.args.length c'] 28)).heap.size = wr.heap.size + 1 := by simp
        have hcb := (hB4.cell (p := ⟨w.heap.size, 0, none⟩) (by simp; omega)).trans hbx
        have d0 : (wr.alloc (.cells #[.int .i64 s.head, .slice a' s.args.length c'] 28)).cell? ⟨wr.heap.size, 0, none⟩ = some (.int .i64 s.head) := by simp [go_sem]
        have d1 : (wr.alloc (.cells #[.int .i64 s.head, .slice a' s.args.length c'] 28)).cell? ⟨wr.heap.size, 1, none⟩ = some (.slice a' s.args.length c') := by simp [go_sem]
        have hblk4 := (hB4.block g hgw).trans hI.blk
        have hcells := hI.cells
        by_cases q : s.head < 0
        · have hw := wf_low hsw
          have CN := Lib.hid (number_any Nk (by omega) (-1 - s.head) ⟨by omega, by omega⟩ Bp Bm (wr.alloc (.cells #[.int .i64 s.head, .slice a' s.args.length c'] 28)) (hnum.below hB4))
          have HB4 := Lib.hid hB4
          have hnrm := T.nrm_neg (N := Nk) q
          have HNRM := Lib.hid hnrm
          clear hI hold hA' HST hs hsl hNk hnum hsw hB4 hnrm
          go_wp2_with fail
          refine CN.out.mono ?_
          rintro e w5 ⟨rfl, hR5, hg5⟩
          have hz5 := hg5.size
          rw [hz4] at hz5
          have hg5l : g < w5.heap.size := by omega
          have hblk5 := (hg5.block g (by omega) (by simp; omega)).trans hblk4
          have k0 := (grown_cell (o := k * 2) hg5 (by omega) (by omega)).trans ((HB4.out.cell (p := ⟨g, k * 2, none⟩) hgw).trans g0)
          have k1 := (grown_cell (o := k * 2 + 1) hg5 (by omega) (by omega)).trans ((HB4.out.cell (p := ⟨g, k * 2 + 1, none⟩) hgw).trans g1)
          have j0 : w5.frozen? ⟨g, k * 2, none⟩ = false := by simp [World.frozen?, hblk5]
          have j1 : w5.frozen? ⟨g, k * 2 + 1, none⟩ = false := by simp [World.frozen?, hblk5]
          obtain ⟨i, hix⟩ : ∃ i, ix (ddStep Nk (-1 - s.head)) (-1 - s.head) = i := ⟨_, rfl⟩
          have hib : 0 ≤ i ∧ i ≤ 1000000000000 := by
            rw [← hix]
            unfold ix
            have h1 : (ddStep Nk (-1 - s.head)).idxOf (-1 - s.head) ≤ (ddStep Nk (-1 - s.head)).length := List.idxOf_le_length
            have h2 : (ddStep Nk (-1 - s.head)).length ≤ Nk.length + 1 := by unfold ddStep; split <;> simp
            have h3 := NKL.out
            omega
          rw [hix]
          have HIX := Lib.hid hix
          have HR5 := Lib.hid hR5
          have HG5 := Lib.hid hg5
          have HBK := Lib.hid hblk5
          clear hix hR5 hg5 hblk4 hblk5 g0 g1 d0 d1 f0 f1 CN hz4 hcb
          go_wp2
          go_roundw
          case rel =>
            have hx : (s.nrm (T.nrms (ts.take k) N).2).1 = .node (-1 - i) [] := by rw [HNK.out, HNRM.out, HIX.out]
            have hN2 : (s.nrm (T.nrms (ts.take k) N).2).2 = ddStep Nk (-1 - s.head) := by rw [HNK.out, HNRM.out]
            have h := nl_step (ob := .cells #[.int .i64 s.head, .slice a' s.args.length c'] 28) (w6 := (w5.setCell ⟨g, k * 2, none⟩ (.int .i64 (-1 - i))).setCell ⟨g, k * 2 + 1, none⟩ (.slice none 0 0)) (cur' := (cur.setIfInBounds (k * 2) (.int .i64 (-1 - i))).setIfInBounds (k * 2 + 1) (.slice none 0 0)) (a := none) (c := 0) hn hBm hBp hg HI.out HS.out (by omega) hx (WalkArith.wf_i64 ⟨by simp [T.head]; omega, by simp [T.head]; omega⟩) HG5.out (by rw [hN2]; exact HR5.out) ⟨by simp [T.args], by simp [maxLen], .inl rfl⟩
              (by rw [heap_setCell_same (heap_setCell_same HBK.out _)])
              (by
                rw [Array.toList_setIfInBounds, Array.toList_setIfInBounds, hcells]
                rw [List.set_append_right _ _ (by omega), show k * 2 - vs.length = 0 from by omega]
                simp only [List.cons_append, List.set_cons_zero]
                rw [List.set_append_right _ _ (by omega), show k * 2 + 1 - vs.length = 1 from by omega]
                simp [T.head, T.args])
              (fun b hb => (Below.heap_setCell _ _ _ _ hb).trans (Below.heap_setCell _ _ _ _ hb)) (by simp) ⟨rfl, rfl, rfl⟩
            exact ⟨k + 1, _, _, _, _, by omega, by go_num, h⟩
          case measure => simp [intOf]; omega
        · have hse := T.size_eq s
          have CN := Lib.hid (IH.out (T.sizes s.args) (by omega) s.args (Nat.le_refl _) (by omega) (fun u hu => by obtain ⟨j, hj⟩ := List.getElem?_of_mem hu; exact good_arg hsg hj) Nk (by omega) n₀ a' c' (wr.alloc (.cells #[.int .i64 s.head, .slice a' s.args.length c'] 28)) hn (hnum.below hB4) (hA'.below (hB4.mono (by omega))))
          have HB4 := Lib.hid hB4
          have hnrm := T.nrm_pos (N := Nk) q
          have HNRM := Lib.hid hnrm
          have HSW := Lib.hid hsw
          have hlA : s.args.length ≤ c' ∧ c' ≤ maxLen := ⟨hA'.1, hA'.2.1⟩
          clear hI hold hA' HST hs hsl hNk hnum hsw hB4 hnrm hse
          go_wp2_with fail
          refine CN.out.mono ?_
          rintro e w5 ⟨a5, c5, rfl, hI5, hR5, hg5⟩
          have hz5 := hg5.size
          rw [hz4] at hz5
          have hg5l : g < w5.heap.size := by omega
          have hblk5 := (hg5.block g (by omega) (by simp; omega)).trans hblk4
          have k0 := (grown_cell (o := k * 2) hg5 (by omega) (by omega)).trans ((HB4.out.cell (p := ⟨g, k * 2, none⟩) hgw).trans g0)
          have k1 := (grown_cell (o := k * 2 + 1) hg5 (by omega) (by omega)).trans ((HB4.out.cell (p := ⟨g, k * 2 + 1, none⟩) hgw).trans g1)
          have j1 : w5.frozen? ⟨g, k * 2 + 1, none⟩ = false := by simp [World.frozen?, hblk5]
          have hnl := T.nrms_length s.args Nk
          obtain ⟨us, hus⟩ : ∃ us, (T.nrms s.args Nk).1 = us := ⟨_, rfl⟩
          rw [hus] at hI5 hnl ⊢
          have HUS := Lib.hid hus
          have HI5 := Lib.hid hI5
          have HR5 := Lib.hid hR5
          have HG5 := Lib.hid hg5
          have HBK := Lib.hid hblk5
          have HNL := Lib.hid hnl
          have hkk : k * 2 < cur.size := by
            have := congrArg List.length hcells
            simp at this
            omega
          clear hus hI5 hR5 hg5 hblk4 hblk5 g0 g1 d0 d1 f0 f1 CN hz4 hcb hnl
          go_wp2
          go_roundw
          case rel =>
            have hx : (s.nrm (T.nrms (ts.take k) N).2).1 = .node s.head us := by rw [HNK.out, HNRM.out, HUS.out]
            have hN2 : (s.nrm (T.nrms (ts.take k) N).2).2 = (T.nrms s.args Nk).2 := by rw [HNK.out, HNRM.out]
            have h := nl_step (ob := .cells #[.int .i64 s.head, .slice a' s.args.length c'] 28) (w6 := w5.setCell ⟨g, k * 2 + 1, none⟩ (.slice a5 us.length c5)) (cur' := cur.setIfInBounds (k * 2 + 1) (.slice a5 us.length c5)) (a := a5) (c := c5) hn hBm hBp hg HI.out HS.out (by omega) hx HSW.out HG5.out (by rw [hN2]; exact HR5.out) HI5.out
              (by rw [heap_setCell_same HBK.out])
              (by
                rw [Array.toList_setIfInBounds, hcells]
                rw [List.set_append_right _ _ (by omega), show k * 2 + 1 - vs.length = 1 from by omega]
                simp [T.head, T.args])
              (fun b hb => Below.heap_setCell _ _ _ _ hb) (by simp) ⟨rfl, rfl, rfl⟩
            exact ⟨k + 1, _, _, _, _, by omega, by go_num, h⟩
          case measure => simp [intOf]; omega
      · obtain rfl : k = ts.length := by omega
        have hnew := hI.new
        have hnum := hI.num
        rw [List.take_length] at hnew hnum
        have hrow : IsRowp (fun b => w.heap.size ≤ b ∧ b < wr.heap.size) wr (T.nrms ts N).1 g 0 := RowVals.isRowp (hnew.keep (fun _ _ => rfl) (fun b hb => ⟨by have := hb.1; omega, hb.2.1⟩)) (fun j u hj => by
          rw [Nat.zero_add]
          exact cell_of_split hI.blk hI.cells (by rw [List.getElem?_append_left (List.getElem?_eq_some_iff.1 hj).1]; exact hj))
        have HROW := Lib.hid hrow
        have HNUM := Lib.hid hnum
        have hkeep : w.grownBy wr (some Bm) := ⟨hI.env.1.trans HB3.out.os, hI.env.2.1.trans HB3.out.tape, hI.env.2.2.trans HB3.out.output, by omega, fun b hb hne => (hI.keep b (by omega) (by omega) (by simpa using hne)).trans (HB3.out.block b hb)⟩
        have HKP := Lib.hid hkeep
        clear hI hnew hnum hrow hvl HST hkeep
        go_wp2
        go_ret
        refine ⟨some ⟨g, 0, none⟩, c2, by rw [T.nrms_length]; rfl, ⟨by rw [T.nrms_length]; exact hn1, by unfold maxLen; exact hn2, .inr ⟨g, 0, rfl, ⟨by omega, hgw⟩, HROW.out⟩⟩, HNUM.out, HKP.out⟩
theorem nlist_any (Bp Bm : Nat) : ∀ S, NlistAny Bp Bm S := by
  intro S
  induction S using Nat.strongRecOn with
  | ind S ih => exact nlist_step Bp Bm S ih
theorem run_makeNum (w : World) : (Instr.makeMap 94 none).run Try.prog w = .ok (.map (some w.heap.size)) (w.alloc (.map #[] 0)) := by
  simp [Instr.makeMap, run_underlying Try.underlying94, asInt, asIntOf, Result.andThen]
theorem occur_any (w : World) : Calls Try.prog 53 #[] w fun e w' => e = .returned (fvN (w.heap.size + 1)) ∧ NumR w' (w.heap.size + 1) w.heap.size [] ∧ Below w.heap.size w w' := by
  have hmm := run_makeNum
  go_enter Try.func53, Try.ntmps53
  go_wp2
  go_ret
  refine ⟨rfl, ⟨by simp [go_sem], ?_, by omega⟩, ((Below.refl _ w).alloc (Nat.le_refl _) _).alloc (by simp) _⟩
  have h := (MapI.made w).kept (W' := (w.alloc (.map #[] 0)).alloc (.cells #[.map (some w.heap.size)] 94)) (Below.heap_alloc _ _ _ (by simp))
  exact h
def NormPost (ts : List T) (w : World) (e : Ending) (w' : World) : Prop :=
  ((badL ts = true ∧ e = .returned (.tuple #[.slice none 0 0, .int .i64 1])) ∨ (badL ts = false ∧ ∃ a c, e = .returned (.tuple #[.slice a (T.nrms ts []).1.length c, .int .i64 0]) ∧ IsArgs w'.heap.size w' (T.nrms ts []).1 a c)) ∧ Below w.heap.size w w'
set_option maxRecDepth 100000 in
set_option maxHeartbeats 1000000 in
theorem norm_any (ts : List T) (hts : T.sizes ts ≤ 100000) (n₀ : Nat) (a : Option Addr) (c : Nat) (w : World) (hn : n₀ ≤ w.heap.size) (hA : IsArgs n₀ w ts a c) :
    Calls Try.prog 36 #[.slice a ts.length c] w (NormPost ts w) := by
  have HTS := Lib.hid (show ∀ t ∈ ts, t.size ≤ 1000000000000 from fun t ht => by obtain ⟨i, hi⟩ := List.getElem?_of_mem ht; have := sizes_take_lt hi; omega)
  have HA := Lib.hid hA
  clear hA
  go_enter Try.func36, Try.ntmps36
  go_wp2_with fail
  refine (mContains_any ts HTS.out n₀ a c w hn HA.out).mono ?_
  rintro e w1 ⟨rfl, hb⟩
  have HB1 := Lib.hid hb
  clear hb
  cases q1 : badL ts
  case true =>
    have Q1 := Lib.hid q1
    clear q1
    go_wp2
    refine bodyPost_ret (v := .tuple #[.slice none 0 0, .int .i64 1]) (by simp [results, Try.results36, go_sem]) rfl ?_
    exact ⟨.inl ⟨Q1.out, rfl⟩, HB1.out⟩
  have Q1 := Lib.hid q1
  clear q1
  go_wp2_with fail
  refine (occur_any w1).mono ?_
  rintro e w2 ⟨rfl, hR, hb⟩
  have HB2 := Lib.hid (HB1.out.trans (hb.mono HB1.out.size))
  have hz1 := HB1.out.size
  have CL := Lib.hid (nlist_any (w1.heap.size + 1) w1.heap.size _ ts (Nat.le_refl _) hts (fun t ht => (check_ok (badL_false Q1.out t ht)).2.2) [] (by simp; omega) n₀ a c w2 (by omega) hR (HA.out.below (HB2.out.mono hn)))
  clear hb hR
  go_wp2_with fail
  refine CL.out.mono ?_
  rintro e w3 ⟨a3, c3, rfl, hI, hR, hg⟩
  have hwB : Below w.heap.size w2 w3 := grown_below hg (by omega) HB2.out.size
  have HI := Lib.hid (hI.toArgs (n := w3.heap.size) (fun b hb => hb.2))
  have HF := Lib.hid (HB2.out.trans hwB)
  clear hI hR hg hwB
  go_wp2
  refine bodyPost_ret (v := .tuple #[.slice a3 (T.nrms ts []).1.length c3, .int .i64 0]) (by simp [results, Try.results36, go_sem]) rfl ?_
  exact ⟨.inr ⟨Q1.out, a3, c3, rfl, HI.out⟩, HF.out⟩
end Go.Proofs.Ytbdabdjpgmnejaa

/- Rs0: split off Rsa. -/
namespace Go.Proofs.Ytbdabdjpgmnejaa
set_option linter.unusedVariables false
set_option linter.unusedSimpArgs false
open Go.RowKit
theorem rSame_any (x y : T) (hx : x.size ≤ 1000000000000) (hy : y.size ≤ 1000000000000) (n₀ : Nat) (a : Option Addr) (c : Nat) (a' : Option Addr) (c' : Nat) (w : World) (hn : n₀ ≤ w.heap.size) (hA : IsArgs n₀ w x.args a c) (hB : IsArgs n₀ w y.args a' c') :
    Calls Try.prog 16 #[tm x.head a x.args.length c, tm y.head a' y.args.length c'] w fun e w' => e = .returned (.bool (sameB x y)) ∧ Below w.heap.size w w' := by
  refine (refSame_any x y hx hy n₀ a c a' c' w hn hA hB).mono fun e w' h => ⟨?_, h.2⟩
  rw [h.1, show decide (T.cmp x y = 0) = sameB x y from by rw [Bool.eq_iff_iff, decide_eq_true_eq, T.cmp_zero, sameB_iff]]
end Go.Proofs.Ytbdabdjpgmnejaa

/- Contract of the document's Number (layer 5). -/
namespace Go.Proofs.Ytbdabdjpgmnejaa
set_option linter.unusedVariables false
set_option linter.unusedSimpArgs false
open Go.RowKit
/-! ### Number -/
def numS (V : List Int) : Sb := V.mapIdx (fun i v => (v, vt (i : Int)))
theorem ofS_numS : ∀ (V : List Int) (s : Nat) (v : Int), v ∈ V → ofS (V.mapIdx (fun i v => (v, vt ((i + s : Nat) : Int)))) v = vt ((V.idxOf v + s : Nat) : Int)
  | [], s, v, h => by simp at h
  | u :: V, s, v, h => by
    rw [List.mapIdx_cons, ofS, List.idxOf_cons]
    by_cases e : u = v
    · subst e; simp
    · rw [if_neg e, show (u == v) = false from by simpa using e]
      have hv : v ∈ V := by
        rcases List.mem_cons.1 h with rfl | h
        · exact absurd rfl e
        · exact h
      have := ofS_numS V (s + 1) v hv
      simp only [cond_false]
      rw [show V.idxOf v + 1 + s = V.idxOf v + (s + 1) from by omega, ← this]
      congr 2
      funext i v
      rw [show i + 1 + s = i + (s + 1) from by omega]
theorem ofS_num {V : List Int} {v : Int} (h : v ∈ V) : ofS (numS V) v = vt (ix V v) := by
  have := ofS_numS V 0 v h
  simpa [numS, ix] using this
end Go.Proofs.Ytbdabdjpgmnejaa

/- Contract of the document's Norm of clauses. -/
namespace Go.Proofs.Ytbdabdjpgmnejaa
set_option linter.unusedVariables false
set_option linter.unusedSimpArgs false
open Go.RowKit
/-! ### Norm -/
/-- The substitution that numbers a clause's variables. -/
def nuC (c : List Lt3) : Sb := numS (T.rvs [] (sidesC c))
def nmL (c : List Lt3) : List Lt3 := if badL (sidesC c) then [] else c.map (Lt3.sub (ofS (nuC c)))
def nmE (c : List Lt3) : Int := if badL (sidesC c) then 1 else 0
def ClEPost (D : List Lt3) (k : Int) (w : World) (e : Ending) (w' : World) : Prop := ∃ (P : List LV) (p : Option Addr) (c : Nat), t3s P = D ∧ e = .returned (.tuple #[.slice p P.length c, .int .i64 k]) ∧ IsCl w'.heap.size w' P p c ∧ Below w.heap.size w w'
end Go.Proofs.Ytbdabdjpgmnejaa

/- Sizes of terms put; plain. -/
namespace Go.Proofs.Ytbdabdjpgmnejaa
set_option linter.unusedVariables false
set_option linter.unusedSimpArgs false
open Go.RowKit
mutual
theorem T.sub_size {f : Int → T} {n : Nat} (hn : 1 ≤ n) (hf : ∀ v, (f v).size ≤ n) : (t : T) → (t.sub f).size ≤ t.size * n
  | .node h ts => by
    rw [T.sub]
    split
    · have := hf (-1 - h); simp only [T.size, Nat.add_mul]; have : 0 ≤ T.sizes ts * n := Nat.zero_le _; omega
    · have := T.subl_size hn hf ts; simp only [T.size, Nat.add_mul]; omega
theorem T.subl_size {f : Int → T} {n : Nat} (hn : 1 ≤ n) (hf : ∀ v, (f v).size ≤ n) : (ts : List T) → T.sizes (T.subl f ts) ≤ T.sizes ts * n
  | [] => by simp [T.subl, T.sizes]
  | t :: ts => by have h1 := T.sub_size hn hf t; have h2 := T.subl_size hn hf ts; simp only [T.subl, T.sizes, Nat.add_mul]; omega
end
end Go.Proofs.Ytbdabdjpgmnejaa

/- Variables of a term; plain. -/
namespace Go.Proofs.Ytbdabdjpgmnejaa
set_option linter.unusedVariables false
set_option linter.unusedSimpArgs false
open Go.RowKit
def vars1 (t : T) : List Int := varsOf (T.subs 1 t)
theorem heads_arg {t s : T} {i : Nat} (hi : t.args[i]? = some s) {g : Int} (hg : g ∈ s.heads) : g ∈ t.heads := by
  rw [T.heads_eq]
  exact List.mem_cons_of_mem _ (List.mem_flatten.2 ⟨_, List.mem_map.2 ⟨s, List.mem_of_getElem? hi, rfl⟩, hg⟩)
theorem sub_congr_vars {f g : Int → T} : ∀ (N : Nat) (t : T), t.size ≤ N → bad (T.subs 1 t) = false → (∀ h ∈ t.heads, h < 0 → f (-1 - h) = g (-1 - h)) → t.sub f = t.sub g := by
  intro N
  induction N with
  | zero => intro t ht; have := T.size_pos t; omega
  | succ N ih =>
    intro t ht hg hf
    by_cases q : t.head < 0
    · rw [T.sub_neg q, T.sub_neg q]
      exact hf t.head (by rw [T.heads_eq]; simp) q
    · rw [T.sub_pos q, T.sub_pos q]
      congr 1
      apply List.map_congr_left
      intro s hs
      obtain ⟨i, hi⟩ := List.getElem?_of_mem hs
      exact ih s (by have := T.size_lt_of_mem hi; have := T.size_eq t; omega) (good_arg hg hi) (fun h h1 h2 => hf h (heads_arg hi h1) h2)
theorem mem_vars' (t : T) (v : Int) : v ∈ vars1 t ↔ -1 - v ∈ t.heads ∧ 0 ≤ v := by
  rw [vars1, mem_vars]
  constructor
  · rintro ⟨h, h1, h2, rfl⟩
    rw [show -1 - (-1 - h) = h from by omega]
    exact ⟨h1, by omega⟩
  · rintro ⟨h1, h2⟩
    exact ⟨_, h1, by omega, by omega⟩
theorem vars1_bound {t : T} (hg : bad (T.subs 1 t) = false) {z : Int} (hz : z ∈ vars1 t) : 0 ≤ z ∧ z ≤ 255 := by
  obtain ⟨x, hx, h1, rfl⟩ := (mem_varsOf _ _).1 hz
  unfold bad at hg
  rw [List.any_eq_false] at hg
  have := hg x hx
  simp only [Bool.not_eq_true', Bool.not_eq_false] at this
  simp only [okB, if_pos h1, Bool.and_eq_true, decide_eq_true_iff] at this
  omega
theorem vars1_leaf {t : T} (hg : bad (T.subs 1 t) = false) (hn : t.head < 0) (v : Int) : v ∈ vars1 t ↔ v = -1 - t.head := by
  rw [mem_vars', T.heads_eq, good_leaf hg hn]
  simp
  omega
theorem vars1_node {t : T} (hn : ¬ t.head < 0) (v : Int) : v ∈ vars1 t ↔ ∃ s ∈ t.args, v ∈ vars1 s := by
  rw [mem_vars', T.heads_eq]
  simp only [List.mem_cons, List.mem_flatten, List.mem_map]
  constructor
  · rintro ⟨h | ⟨_, ⟨s, hs, rfl⟩, h⟩, h0⟩
    · omega
    · exact ⟨s, hs, (mem_vars' _ _).2 ⟨h, h0⟩⟩
  · rintro ⟨s, hs, h⟩
    obtain ⟨h1, h2⟩ := (mem_vars' _ _).1 h
    exact ⟨.inr ⟨_, ⟨s, hs, rfl⟩, h1⟩, h2⟩
end Go.Proofs.Ytbdabdjpgmnejaa

/- Norms of terms with other variables; plain. -/
namespace Go.Proofs.Ytbdabdjpgmnejaa
set_option linter.unusedVariables false
set_option linter.unusedSimpArgs false
open Go.RowKit
theorem ix_prefix {L E : List Int} {v : Int} (h : v ∈ L) : ix (L ++ E) v = ix L v := by
  unfold ix
  rw [List.idxOf_append, if_pos h]
mutual
/-- What Norm makes of a term: its variables become their numbers. -/
theorem T.nrm_sub (t : T) (hg : bad (T.subs 1 t) = false) (N : List Int) : (∃ E, (t.nrm N).2 = N ++ E) ∧ (∀ v, v ∈ (t.nrm N).2 ↔ v ∈ N ∨ v ∈ vars1 t) ∧ ∀ E, (t.nrm N).1 = t.sub (fun v => vt (ix ((t.nrm N).2 ++ E) v)) := by
  match t with
  | .node h ts =>
    by_cases q : h < 0
    · rw [T.nrm_neg (t := .node h ts) q]
      simp only [T.head]
      refine ⟨?_, fun v => ?_, fun E => ?_⟩
      · unfold ddStep
        split
        · exact ⟨[], by simp⟩
        · exact ⟨_, rfl⟩
      · rw [mem_ddStep, vars1_leaf hg q]
        simp [T.head]
      · rw [T.sub_neg (t := .node h ts) q]
        simp only [T.head]
        rw [ix_prefix (mem_ddStep.2 (.inr rfl))]
        rfl
    · rw [T.nrm_pos (t := .node h ts) q]
      simp only [T.head, T.args]
      have hgs : ∀ s ∈ ts, bad (T.subs 1 s) = false := fun s hs => by obtain ⟨i, hi⟩ := List.getElem?_of_mem hs; exact good_arg (t := .node h ts) hg hi
      obtain ⟨h1, h2, h3⟩ := T.nrms_sub ts hgs N
      refine ⟨h1, fun v => ?_, fun E => ?_⟩
      · rw [h2, vars1_node (t := .node h ts) q]
        simp [T.args]
      · rw [T.sub_pos (t := .node h ts) q]
        simp only [T.head, T.args]
        rw [h3 E]
theorem T.nrms_sub (ts : List T) (hg : ∀ s ∈ ts, bad (T.subs 1 s) = false) (N : List Int) : (∃ E, (T.nrms ts N).2 = N ++ E) ∧ (∀ v, v ∈ (T.nrms ts N).2 ↔ v ∈ N ∨ ∃ s ∈ ts, v ∈ vars1 s) ∧ ∀ E, (T.nrms ts N).1 = ts.map (T.sub (fun v => vt (ix ((T.nrms ts N).2 ++ E) v))) := by
  match ts with
  | [] => exact ⟨⟨[], by simp [T.nrms]⟩, by simp [T.nrms], by simp [T.nrms]⟩
  | t :: ts =>
    obtain ⟨⟨E1, a1⟩, a2, a3⟩ := T.nrm_sub t (hg t (by simp)) N
    obtain ⟨⟨E2, b1⟩, b2, b3⟩ := T.nrms_sub ts (fun s hs => hg s (by simp [hs])) (t.nrm N).2
    simp only [T.nrms]
    refine ⟨⟨E1 ++ E2, by rw [b1, a1, List.append_assoc]⟩, fun v => ?_, fun E => ?_⟩
    · rw [b2, a2]
      simp [or_assoc]
    · rw [List.map_cons, ← b3 E]
      congr 1
      rw [b1, List.append_assoc]
      exact a3 (E2 ++ E)
end
end Go.Proofs.Ytbdabdjpgmnejaa

/- Norms, in plain words. -/
namespace Go.Proofs.Ytbdabdjpgmnejaa
set_option linter.unusedVariables false
set_option linter.unusedSimpArgs false
open Go.RowKit
/-! ### Norm -/
mutual
theorem T.nrm_rv (t : T) (hg : bad (T.subs 1 t) = false) (N : List Int) : (t.nrm N).2 = dd N t.rv := by
  match t with
  | .node h ts =>
    by_cases q : h < 0
    · rw [T.nrm_neg (t := .node h ts) q]
      have e2 : ts = [] := good_leaf (t := .node h ts) hg q
      subst e2
      simp only [T.head, T.rv, T.rvs, if_pos q]
      rfl
    · rw [T.nrm_pos (t := .node h ts) q]
      have hgs : ∀ s ∈ ts, bad (T.subs 1 s) = false := fun s hs => by obtain ⟨i, hi⟩ := List.getElem?_of_mem hs; exact good_arg (t := .node h ts) hg hi
      simp only [T.args, T.rv, if_neg q]
      rw [T.nrms_rv ts hgs N, T.rvs_dd]
      rfl
theorem T.nrms_rv (ts : List T) (hg : ∀ s ∈ ts, bad (T.subs 1 s) = false) (N : List Int) : (T.nrms ts N).2 = T.rvs N ts := by
  match ts with
  | [] => rfl
  | t :: ts =>
    simp only [T.nrms, T.rvs]
    rw [T.nrms_rv ts (fun s hs => hg s (by simp [hs])), T.nrm_rv t (hg t (by simp))]
end
theorem norm_put {ts : List T} (hg : ∀ s ∈ ts, bad (T.subs 1 s) = false) : (T.nrms ts []).1 = ts.map (T.sub (ofS (numS (T.rvs [] ts)))) ∧ ∀ v ∈ T.rvs [] ts, 0 ≤ v ∧ v ≤ 255 := by
  obtain ⟨_, h2, h3⟩ := T.nrms_sub ts hg []
  have h := h3 []
  rw [List.append_nil] at h
  rw [T.nrms_rv ts hg []] at h h2
  refine ⟨?_, fun v hv => ?_⟩
  · rw [h]
    apply List.map_congr_left
    intro s hs
    refine sub_congr_vars _ s (Nat.le_refl _) (hg s hs) fun g hg' hn => ?_
    have : -1 - g ∈ T.rvs [] ts := (h2 _).2 (.inr ⟨s, hs, (mem_vars' _ _).2 ⟨by rw [show -1 - (-1 - g) = g from by omega]; exact hg', by omega⟩⟩)
    exact (ofS_num this).symm
  · rcases (h2 v).1 hv with h | ⟨s, hs, h⟩
    · simp at h
    · exact vars1_bound (hg s hs) h
end Go.Proofs.Ytbdabdjpgmnejaa

/- Norm and Apart of clauses; plain facts. -/
namespace Go.Proofs.Ytbdabdjpgmnejaa
set_option linter.unusedVariables false
set_option linter.unusedSimpArgs false
open Go.RowKit
theorem sidesC_map (f : Int → T) (c : List Lt3) : sidesC (c.map (Lt3.sub f)) = (sidesC c).map (T.sub f) := by
  induction c with
  | nil => rfl
  | cons x c ih => simp only [sidesC, List.map_cons, List.flatten_cons, List.map_append] at *; rw [ih]; rfl
/-- A clause is told by its signs and its sides. -/
theorem lt3s_ext : ∀ {a b : List Lt3}, a.map Lt3.neg = b.map Lt3.neg → sidesC a = sidesC b → a = b
  | [], [], _, _ => rfl
  | [], _ :: _, h, _ => by simp at h
  | _ :: _, [], h, _ => by simp at h
  | x :: a, y :: b, h, k => by
    simp only [List.map_cons, List.cons.injEq] at h
    simp only [sidesC, List.map_cons, List.flatten_cons, List.cons_append, List.nil_append, List.cons.injEq] at k
    obtain ⟨k1, k2, k3⟩ := k
    have := lt3s_ext (a := a) (b := b) h.2 k3
    subst this
    obtain ⟨n, l, r⟩ := x
    obtain ⟨n', l', r'⟩ := y
    simp only at h k1 k2
    obtain ⟨rfl, _⟩ := h
    subst k1 k2
    rfl
theorem badL_good {ts : List T} (h : badL ts = false) : ∀ t ∈ ts, t.check = 0 ∧ bad (T.subs 1 t) = false := fun t ht => by
  unfold badL at h
  rw [List.any_eq_false] at h
  have := h t ht
  simp only [decide_eq_true_eq, ne_eq, Decidable.not_not] at this
  exact ⟨this, (check_ok this).2.2⟩
/-- The sides of a Norm. -/
theorem nm_sides {c : List Lt3} (h : badL (sidesC c) = false) : sidesC (nmL c) = (T.nrms (sidesC c) []).1 := by
  unfold nmL
  rw [h, if_neg (by decide), sidesC_map]
  exact (norm_put (fun s hs => (badL_good h s hs).2)).1.symm
theorem nm_negs (c : List Lt3) (h : badL (sidesC c) = false) : (nmL c).map Lt3.neg = c.map Lt3.neg := by
  unfold nmL
  rw [h, if_neg (by decide), List.map_map]
  rfl
theorem ofS_small : ∀ (V : List Int) (s : Nat) (v : Int), (ofS (V.mapIdx (fun i v => (v, vt ((i + s : Nat) : Int)))) v).size ≤ 1
  | [], s, v => by simp [ofS, vt, T.size, T.sizes]
  | u :: V, s, v => by
    rw [List.mapIdx_cons, ofS]
    split
    · simp [vt, T.size, T.sizes]
    · have := ofS_small V (s + 1) v
      have e : (fun (i : Nat) (v : Int) => (v, vt ((i + 1 + s : Nat) : Int))) = fun (i : Nat) (v : Int) => (v, vt ((i + (s + 1) : Nat) : Int)) := by
        funext i w; rw [show i + 1 + s = i + (s + 1) from by omega]
      rw [← e] at this
      exact this
theorem nu_small (c : List Lt3) (v : Int) : (ofS (nuC c) v).size ≤ 1 := ofS_small _ 0 v
theorem sizes_sub {f : Int → T} (hf : ∀ v, (f v).size ≤ 1) : ∀ ts : List T, T.sizes (ts.map (T.sub f)) ≤ T.sizes ts
  | [] => Nat.le_refl _
  | t :: ts => by
    have h1 := T.sub_size (n := 1) (by omega) hf t
    have h2 := sizes_sub hf ts
    simp only [List.map_cons, T.sizes]
    omega
theorem nm_size (c : List Lt3) : T.sizes (sidesC (nmL c)) ≤ T.sizes (sidesC c) := by
  unfold nmL
  split
  · simp [sidesC, T.sizes]
  · rw [sidesC_map]
    exact sizes_sub (nu_small c) _
/-! ### Apart -/
end Go.Proofs.Ytbdabdjpgmnejaa
