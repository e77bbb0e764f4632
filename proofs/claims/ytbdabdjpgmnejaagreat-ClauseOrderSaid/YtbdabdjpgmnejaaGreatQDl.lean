/- QDl: joined of Nrm, Vars, Ck0, Sv1. -/
import Derived.Test.YtbdabdjpgmnejaaGreatQDj
import Derived.Test.YtbdabdjpgmnejaaGreatQDk
import Derived.Test.YtbdabdjpgmnejaaGreatQBf
import Derived.Test.YtbdabdjpgmnejaaGreatQDi
import Derived.Test.YtbdabdjpgmnejaaGreatQBd
import Derived.Test.YtbdabdjpgmnejaaGreatQDh
import Derived.Shelf.Abstract
import Derived.Test.YtbdabdjpgmnejaaGreatQBm
/- Contracts of renaming.list and of Norm. -/
namespace Go.Proofs.YtbdabdjpgmnejaaGreat
set_option linter.unusedVariables false
set_option linter.unusedSimpArgs false
open Go.RowKit

abbrev fvN (Bp : Nat) : Value := .func (.func 116) #[] #[.pointer (some ⟨Bp, 0, none⟩)]
structure NlI (n₀ Bp Bm : Nat) (ts : List T) (N : List Int) (w w3 : World) (g k : Nat) (vs os sp : List Value) (cur : Array Value) (wr : World) : Prop where
  blk : wr.heap[g]? = some (.cells cur 34 (0, 0))
  cells : cur.toList = vs ++ (os ++ sp)
  new : RowVals (fun b => w.heap.size + 1 ≤ b ∧ b < wr.heap.size ∧ b ≠ g) wr (T.nrms (ts.take k) N).1 vs
  old : RowVals (· < n₀) wr (ts.drop k) os
  num : NumR wr Bp Bm (T.nrms (ts.take k) N).2
  size : w3.heap.size ≤ wr.heap.size
  keep : ∀ b, b < w3.heap.size → b ≠ g → b ≠ Bm → wr.heap[b]? = w3.heap[b]?
  env : wr.os = w3.os ∧ wr.tape = w3.tape ∧ wr.output = w3.output
def NlX (n₀ Bp Bm : Nat) (ts : List T) (N : List Int) (w w3 : World) (g : Nat) (i : Value) (wr : World) : Prop := ∃ (k : Nat) (vs os sp : List Value) (cur : Array Value), k ≤ ts.length ∧ i = .int .i64 k ∧ NlI n₀ Bp Bm ts N w w3 g k vs os sp cur wr

theorem nl_step {n₀ Bp Bm : Nat} {ts : List T} {N : List Int} {w w3 wr w5 w6 : World} {g k : Nat} {h0 s0 : Value} {vs os sp : List Value} {cur cur' : Array Value} {x s : T} {a : Option Addr} {c : Nat} {ob : Obj} (hn : n₀ ≤ Bm) (hBm : Bm < w.heap.size) (hBp : Bp < w.heap.size) (hgw : w.heap.size + 1 ≤ g) (I : NlI n₀ Bp Bm ts N w w3 g k vs (h0 :: s0 :: os) sp cur wr) (hk : ts[k]? = some s) (hz : w.heap.size + 1 ≤ wr.heap.size)
    (hx : (s.nrm (T.nrms (ts.take k) N).2).1 = x) (hxw : (Lit.int .i64 x.head).wf = true) (hg5 : (wr.alloc ob).grownBy w5 (some Bm)) (hN : NumR w5 Bp Bm (s.nrm (T.nrms (ts.take k) N).2).2)
    (hA : IsArgsp (fun b => (wr.alloc ob).heap.size ≤ b ∧ b < w5.heap.size) w5 x.args a c) (h6g : w6.heap[g]? = some (.cells cur' 34 (0, 0))) (h6c : cur'.toList = (vs ++ [.int .i64 x.head, .slice a x.args.length c]) ++ (os ++ sp))
    (h6o : ∀ b, b ≠ g → w6.heap[b]? = w5.heap[b]?) (h6s : w6.heap.size = w5.heap.size) (h6e : w6.os = w5.os ∧ w6.tape = w5.tape ∧ w6.output = w5.output) :
    NlI n₀ Bp Bm ts N w w3 g (k + 1) (vs ++ [.int .i64 x.head, .slice a x.args.length c]) os sp cur' w6 := by
  have hgl : g < wr.heap.size := (Array.getElem?_eq_some_iff.1 I.blk).1
  have hz5 := hg5.size
  rw [heap_alloc_size] at hz5
  have h5 : ∀ b, b < wr.heap.size → b ≠ Bm → w5.heap[b]? = wr.heap[b]? := fun b hb hne => (hg5.block b (by simp; omega) (by simpa using hne)).trans (Below.heap_alloc _ _ _ hb)
  refine ⟨h6g, h6c, ?_, ?_, ?_, ?_, ?_, ?_⟩
  · rw [T.nrms_take hk, hx]
    refine RowVals.snoc hxw (hA.keep (fun b hb => h6o b (by have := hb.1; rw [heap_alloc_size] at this; omega)) (fun b hb => ?_)) (I.new.keep (fun b hb => (h6o b hb.2.2).trans (h5 b hb.2.1 (by have := hb.1; omega))) (fun b hb => ⟨hb.1, by have := hb.2.1; omega, hb.2.2⟩))
    have h1 := hb.1
    have h2 := hb.2
    rw [heap_alloc_size] at h1
    exact ⟨by omega, by omega, by omega⟩
  · have i4 := I.old
    rw [List.drop_eq_getElem_cons (List.getElem?_eq_some_iff.1 hk).1] at i4
    exact RowVals.keep (fun b hb => (h6o b (by omega)).trans (h5 b (by omega) (by omega))) (fun b hb => hb) i4.2.2.2
  · rw [T.nrms_take hk]
    have hl := I.num.lt
    exact hN.kept (h6o _ (by omega)) (h6o _ (by omega))
  · have := I.size; omega
  · intro b hb h1 h2
    exact (h6o b h1).trans ((h5 b (by have := I.size; omega) h2).trans (I.keep b hb h1 h2))
  · obtain ⟨e1, e2, e3⟩ := I.env
    refine ⟨h6e.1.trans (hg5.os.trans ?_), h6e.2.1.trans (hg5.tape.trans ?_), h6e.2.2.trans (hg5.output.trans ?_)⟩
    · exact e1
    · exact e2
    · exact e3

def NlPost (Bp Bm : Nat) (r : List T × List Int) (w : World) (e : Ending) (w' : World) : Prop :=
  ∃ a2 c2, e = .returned (.slice a2 r.1.length c2) ∧ IsArgsp (fun b => w.heap.size ≤ b ∧ b < w'.heap.size) w' r.1 a2 c2 ∧ NumR w' Bp Bm r.2 ∧ w.grownBy w' (some Bm)

def NlistAny (Bp Bm S : Nat) : Prop := ∀ (ts : List T), T.sizes ts ≤ S → T.sizes ts ≤ 100000 → (∀ t ∈ ts, bad (T.subs 1 t) = false) → ∀ (N : List Int), N.length + T.sizes ts ≤ 500000 → ∀ (n₀ : Nat) (a : Option Addr) (c : Nat) (w : World), n₀ ≤ Bm → NumR w Bp Bm N → IsArgs n₀ w ts a c →
    Calls Tryz.prog 80 #[.agg #[fvN Bp], .slice a ts.length c] w (NlPost Bp Bm (T.nrms ts N) w)

set_option maxRecDepth 100000 in
set_option maxHeartbeats 4000000 in
theorem nlist_step (Bp Bm S : Nat) (ih : ∀ S', S' < S → NlistAny Bp Bm S') : NlistAny Bp Bm S := by
  intro ts hS hbig hgd N hNl n₀ a c w hn hR hA
  have IH := Lib.hid ih
  have HGD := Lib.hid hgd
  have HR := Lib.hid hR
  obtain ⟨hBp, hBm⟩ := hR.lt
  have hlz := T.sizes_ge_length ts
  have hlc : ts.length ≤ c ∧ c ≤ maxLen := ⟨hA.1, hA.2.1⟩
  unfold maxLen at hlc
  obtain ⟨hl1, hl2⟩ := hlc
  have hb1 : Below w.heap.size w (w.alloc (.cells #[fvN Bp] 94)) := (Below.refl _ w).alloc (Nat.le_refl _) _
  have CL := Lib.hid (clone_any ts (by omega) n₀ a c (w.alloc (.cells #[fvN Bp] 94)) (by simp; omega) (hA.below (hb1.mono (by omega))))
  have HB1 := Lib.hid hb1
  clear ih hgd hR hA hb1
  go_enter Tryz.func80, Tryz.ntmps80
  go_wp2_with fail
  refine CL.out.mono ?_
  rintro e w3 ⟨a2, c2, rfl, ⟨hn1, hn2, hnr⟩, hb3⟩
  rw [heap_alloc_size] at hb3 hnr
  have hbx : w3.cell? ⟨w.heap.size, 0, none⟩ = some (fvN Bp) := (hb3.cell (p := ⟨w.heap.size, 0, none⟩) (by simp)).trans (by simp [go_sem])
  have hB3 : Below w.heap.size w w3 := HB1.out.trans (hb3.mono (by omega))
  have hz3 : w.heap.size + 1 ≤ w3.heap.size := by have := hb3.size; simpa using this
  have HR3 := Lib.hid (HR.out.below hB3)
  have HB3 := Lib.hid hB3
  clear hb3 hB3
  rcases hnr with hnil | ⟨g, cur, rfl, hg, hgb, hgs, hrow⟩
  · subst hnil
    clear hn1
    go_wp2
    go_loopw [6, 7, 12] (fun _ _ i wr => i = .int .i64 0 ∧ wr = w3) (fun _ _ _ _ => 0)
    case atStart => exact ⟨rfl, rfl⟩
    case round =>
      obtain ⟨rfl, rfl⟩ := hrel
      go_wp2
      go_ret
      exact ⟨a2, c2, rfl, ⟨by simp [T.nrms], hn2, .inl rfl⟩, HR3.out, grown_of_below HB3.out⟩
  · obtain ⟨os, hos, hoc, _⟩ := rowVals_of ts 0 ((isRowp_lt _).2 hrow)
    obtain ⟨sp, hsp⟩ := row_split hgb hoc
    have HST := Lib.hid (show NlX n₀ Bp Bm ts N w w3 g (.int .i64 ((0 : Nat) : Int)) w3 from ⟨0, [], os, sp, cur, Nat.zero_le _, rfl, hgb, hsp, by simp [T.nrms, RowVals], hos, HR3.out, Nat.le_refl _, fun _ _ _ _ => rfl, rfl, rfl, rfl⟩)
    have HBX := Lib.hid hbx
    clear hos hoc hsp hgb hrow CL hgs hbx
    unfold maxLen at hn2
    go_wp2
    go_loopw [6, 7, 12] (fun _ _ i wr => NlX n₀ Bp Bm ts N w w3 g i wr) (fun _ _ i _ => ts.length - (intOf i).toNat)
    case atStart => exact HST.out
    case round =>
      obtain ⟨k, vs, os, sp, cur, hk, rfl, hI⟩ := hrel
      have HI := Lib.hid hI
      have hzw := hI.size
      have hgw : g < wr.heap.size := (Array.getElem?_eq_some_iff.1 hI.blk).1
      have hbx : wr.cell? ⟨w.heap.size, 0, none⟩ = some (fvN Bp) := (World.cell?_of_block (a := ⟨w.heap.size, 0, none⟩) (hI.keep w.heap.size (by omega) (by omega) (by omega))).trans HBX.out
      have hvl := hI.new.length
      rw [T.nrms_length, List.length_take, Nat.min_eq_left hk] at hvl
      by_cases hlt : k < ts.length
      · obtain ⟨s, hs⟩ : ∃ s, ts[k]? = some s := ⟨_, List.getElem?_eq_getElem hlt⟩
        have hold := hI.old
        rw [List.drop_eq_getElem_cons hlt, (List.getElem?_eq_some_iff.1 hs).2] at hold
        obtain ⟨os', a', c', rfl, hsw, hA'⟩ : ∃ os' a' c', os = .int .i64 s.head :: .slice a' s.args.length c' :: os' ∧ (Lit.int .i64 s.head).wf = true ∧ IsArgs n₀ wr s.args a' c' := by
          match os, hold with
          | h0 :: s0 :: os', ⟨q1, q2, ⟨a', c', q3, q4⟩, _⟩ => exact ⟨os', a', c', by rw [q2, q3], q1, isArgsp_lt.1 q4⟩
        have g0 : wr.cell? ⟨g, k * 2, none⟩ = some (.int .i64 s.head) := cell_of_split hI.blk hI.cells (by rw [List.getElem?_append_right (by omega), show k * 2 - vs.length = 0 from by omega]; rfl)
        have g1 : wr.cell? ⟨g, k * 2 + 1, none⟩ = some (.slice a' s.args.length c') := cell_of_split hI.blk hI.cells (by rw [List.getElem?_append_right (by omega), show k * 2 + 1 - vs.length = 1 from by omega]; rfl)
        have f0 : wr.frozen? ⟨g, k * 2, none⟩ = false := by simp [World.frozen?, hI.blk]
        have f1 : wr.frozen? ⟨g, k * 2 + 1, none⟩ = false := by simp [World.frozen?, hI.blk]
        have hk0 : (0 : Int) ≤ (k : Int) := Int.natCast_nonneg _
        have hk1 : (k : Int) < (ts.length : Int) := by omega
        have hsg := HGD.out s (List.mem_of_getElem? hs)
        have hsl := sizes_take_lt hs
        have hNk := T.nrms_len (ts.take k) N
        obtain ⟨Nk, hNk'⟩ : ∃ Nk, (T.nrms (ts.take k) N).2 = Nk := ⟨_, rfl⟩
        have hnum := hI.num
        rw [hNk'] at hnum hNk
        have NKL := Lib.hid (show Nk.length ≤ 500000 from by omega)
        have hB4 : Below wr.heap.size wr (wr.alloc (.cells #[.int .i64 s.head, .slice a' s.args.length c'] 34)) := (Below.refl _ _).alloc (Nat.le_refl _) _
        have HS := Lib.hid hs
        have HNK := Lib.hid hNk'
        have hz4 : (wr.alloc (.cells #[.int .i64 s.head, .slice a' s.args.length c'] 34)).heap.size = wr.heap.size + 1 := by simp
        have hcb := (hB4.cell (p := ⟨w.heap.size, 0, none⟩) (by simp; omega)).trans hbx
        have d0 : (wr.alloc (.cells #[.int .i64 s.head, .slice a' s.args.length c'] 34)).cell? ⟨wr.heap.size, 0, none⟩ = some (.int .i64 s.head) := by simp [go_sem]
        have d1 : (wr.alloc (.cells #[.int .i64 s.head, .slice a' s.args.length c'] 34)).cell? ⟨wr.heap.size, 1, none⟩ = some (.slice a' s.args.length c') := by simp [go_sem]
        have hblk4 := (hB4.block g hgw).trans hI.blk
        have hcells := hI.cells
        by_cases q : s.head < 0
        · have hw := wf_low hsw
          have CN := Lib.hid (number_any Nk (by omega) (-1 - s.head) ⟨by omega, by omega⟩ Bp Bm (wr.alloc (.cells #[.int .i64 s.head, .slice a' s.args.length c'] 34)) (hnum.below hB4))
          have HB4 := Lib.hid hB4
          have hnrm := T.nrm_neg (N := Nk) q
          have HNRM := Lib.hid hnrm
          clear hI hold hA' HST hs hsl hNk hnum hsw hB4 hnrm
          go_wp2_with fail
          refine CN.out.mono ?_
          rintro e w5 ⟨rfl, hR5, hg5⟩
          have hz5 := hg5.size
          rw [hz4] at hz5
          have hg5l : g < w5.heap.size := by omega
          have hblk5 := (hg5.block g (by omega) (by simp; omega)).trans hblk4
          have k0 := (grown_cell (o := k * 2) hg5 (by omega) (by omega)).trans ((HB4.out.cell (p := ⟨g, k * 2, none⟩) hgw).trans g0)
          have k1 := (grown_cell (o := k * 2 + 1) hg5 (by omega) (by omega)).trans ((HB4.out.cell (p := ⟨g, k * 2 + 1, none⟩) hgw).trans g1)
          have j0 : w5.frozen? ⟨g, k * 2, none⟩ = false := by simp [World.frozen?, hblk5]
          have j1 : w5.frozen? ⟨g, k * 2 + 1, none⟩ = false := by simp [World.frozen?, hblk5]
          obtain ⟨i, hix⟩ : ∃ i, ix (ddStep Nk (-1 - s.head)) (-1 - s.head) = i := ⟨_, rfl⟩
          have hib : 0 ≤ i ∧ i ≤ 1000000000000 := by
            rw [← hix]
            unfold ix
            have h1 : (ddStep Nk (-1 - s.head)).idxOf (-1 - s.head) ≤ (ddStep Nk (-1 - s.head)).length := List.idxOf_le_length
            have h2 : (ddStep Nk (-1 - s.head)).length ≤ Nk.length + 1 := by unfold ddStep; split <;> simp
            have h3 := NKL.out
            omega
          rw [hix]
          have HIX := Lib.hid hix
          have HR5 := Lib.hid hR5
          have HG5 := Lib.hid hg5
          have HBK := Lib.hid hblk5
          clear hix hR5 hg5 hblk4 hblk5 g0 g1 d0 d1 f0 f1 CN hz4 hcb
          go_wp2
          go_roundw
          case rel =>
            have hx : (s.nrm (T.nrms (ts.take k) N).2).1 = .node (-1 - i) [] := by rw [HNK.out, HNRM.out, HIX.out]
            have hN2 : (s.nrm (T.nrms (ts.take k) N).2).2 = ddStep Nk (-1 - s.head) := by rw [HNK.out, HNRM.out]
            have h := nl_step (ob := .cells #[.int .i64 s.head, .slice a' s.args.length c'] 34) (w6 := (w5.setCell ⟨g, k * 2, none⟩ (.int .i64 (-1 - i))).setCell ⟨g, k * 2 + 1, none⟩ (.slice none 0 0)) (cur' := (cur.setIfInBounds (k * 2) (.int .i64 (-1 - i))).setIfInBounds (k * 2 + 1) (.slice none 0 0)) (a := none) (c := 0) hn hBm hBp hg HI.out HS.out (by omega) hx (WalkArith.wf_i64 ⟨by simp [T.head]; omega, by simp [T.head]; omega⟩) HG5.out (by rw [hN2]; exact HR5.out) ⟨by simp [T.args], by simp [maxLen], .inl rfl⟩
              (by rw [heap_setCell_same (heap_setCell_same HBK.out _)])
              (by
                rw [Array.toList_setIfInBounds, Array.toList_setIfInBounds, hcells]
                rw [List.set_append_right _ _ (by omega), show k * 2 - vs.length = 0 from by omega]
                simp only [List.cons_append, List.set_cons_zero]
                rw [List.set_append_right _ _ (by omega), show k * 2 + 1 - vs.length = 1 from by omega]
                simp [T.head, T.args])
              (fun b hb => (Below.heap_setCell _ _ _ _ hb).trans (Below.heap_setCell _ _ _ _ hb)) (by simp) ⟨rfl, rfl, rfl⟩
            exact ⟨k + 1, _, _, _, _, by omega, by go_num, h⟩
          case measure => simp [intOf]; omega
        · have hse := T.size_eq s
          have CN := Lib.hid (IH.out (T.sizes s.args) (by omega) s.args (Nat.le_refl _) (by omega) (fun u hu => by obtain ⟨j, hj⟩ := List.getElem?_of_mem hu; exact good_arg hsg hj) Nk (by omega) n₀ a' c' (wr.alloc (.cells #[.int .i64 s.head, .slice a' s.args.length c'] 34)) hn (hnum.below hB4) (hA'.below (hB4.mono (by omega))))
          have HB4 := Lib.hid hB4
          have hnrm := T.nrm_pos (N := Nk) q
          have HNRM := Lib.hid hnrm
          have HSW := Lib.hid hsw
          have hlA : s.args.length ≤ c' ∧ c' ≤ maxLen := ⟨hA'.1, hA'.2.1⟩
          clear hI hold hA' HST hs hsl hNk hnum hsw hB4 hnrm hse
          go_wp2_with fail
          refine CN.out.mono ?_
          rintro e w5 ⟨a5, c5, rfl, hI5, hR5, hg5⟩
          have hz5 := hg5.size
          rw [hz4] at hz5
          have hg5l : g < w5.heap.size := by omega
          have hblk5 := (hg5.block g (by omega) (by simp; omega)).trans hblk4
          have k0 := (grown_cell (o := k * 2) hg5 (by omega) (by omega)).trans ((HB4.out.cell (p := ⟨g, k * 2, none⟩) hgw).trans g0)
          have k1 := (grown_cell (o := k * 2 + 1) hg5 (by omega) (by omega)).trans ((HB4.out.cell (p := ⟨g, k * 2 + 1, none⟩) hgw).trans g1)
          have j1 : w5.frozen? ⟨g, k * 2 + 1, none⟩ = false := by simp [World.frozen?, hblk5]
          have hnl := T.nrms_length s.args Nk
          obtain ⟨us, hus⟩ : ∃ us, (T.nrms s.args Nk).1 = us := ⟨_, rfl⟩
          rw [hus] at hI5 hnl ⊢
          have HUS := Lib.hid hus
          have HI5 := Lib.hid hI5
          have HR5 := Lib.hid hR5
          have HG5 := Lib.hid hg5
          have HBK := Lib.hid hblk5
          have HNL := Lib.hid hnl
          have hkk : k * 2 < cur.size := by
            have := congrArg List.length hcells
            simp at this
            omega
          clear hus hI5 hR5 hg5 hblk4 hblk5 g0 g1 d0 d1 f0 f1 CN hz4 hcb hnl
          go_wp2
          go_roundw
          case rel =>
            have hx : (s.nrm (T.nrms (ts.take k) N).2).1 = .node s.head us := by rw [HNK.out, HNRM.out, HUS.out]
            have hN2 : (s.nrm (T.nrms (ts.take k) N).2).2 = (T.nrms s.args Nk).2 := by rw [HNK.out, HNRM.out]
            have h := nl_step (ob := .cells #[.int .i64 s.head, .slice a' s.args.length c'] 34) (w6 := w5.setCell ⟨g, k * 2 + 1, none⟩ (.slice a5 us.length c5)) (cur' := cur.setIfInBounds (k * 2 + 1) (.slice a5 us.length c5)) (a := a5) (c := c5) hn hBm hBp hg HI.out HS.out (by omega) hx HSW.out HG5.out (by rw [hN2]; exact HR5.out) HI5.out
              (by rw [heap_setCell_same HBK.out])
              (by
                rw [Array.toList_setIfInBounds, hcells]
                rw [List.set_append_right _ _ (by omega), show k * 2 + 1 - vs.length = 1 from by omega]
                simp [T.head, T.args])
              (fun b hb => Below.heap_setCell _ _ _ _ hb) (by simp) ⟨rfl, rfl, rfl⟩
            exact ⟨k + 1, _, _, _, _, by omega, by go_num, h⟩
          case measure => simp [intOf]; omega
      · obtain rfl : k = ts.length := by omega
        have hnew := hI.new
        have hnum := hI.num
        rw [List.take_length] at hnew hnum
        have hrow : IsRowp (fun b => w.heap.size ≤ b ∧ b < wr.heap.size) wr (T.nrms ts N).1 g 0 := RowVals.isRowp (hnew.keep (fun _ _ => rfl) (fun b hb => ⟨by have := hb.1; omega, hb.2.1⟩)) (fun j u hj => by
          rw [Nat.zero_add]
          exact cell_of_split hI.blk hI.cells (by rw [List.getElem?_append_left (List.getElem?_eq_some_iff.1 hj).1]; exact hj))
        have HROW := Lib.hid hrow
        have HNUM := Lib.hid hnum
        have hkeep : w.grownBy wr (some Bm) := ⟨hI.env.1.trans HB3.out.os, hI.env.2.1.trans HB3.out.tape, hI.env.2.2.trans HB3.out.output, by omega, fun b hb hne => (hI.keep b (by omega) (by omega) (by simpa using hne)).trans (HB3.out.block b hb)⟩
        have HKP := Lib.hid hkeep
        clear hI hnew hnum hrow hvl HST hkeep
        go_wp2
        go_ret
        refine ⟨some ⟨g, 0, none⟩, c2, by rw [T.nrms_length]; rfl, ⟨by rw [T.nrms_length]; exact hn1, by unfold maxLen; exact hn2, .inr ⟨g, 0, rfl, ⟨by omega, hgw⟩, HROW.out⟩⟩, HNUM.out, HKP.out⟩

theorem nlist_any (Bp Bm : Nat) : ∀ S, NlistAny Bp Bm S := by
  intro S
  induction S using Nat.strongRecOn with
  | ind S ih => exact nlist_step Bp Bm S ih

theorem run_makeNum (w : World) : (Instr.makeMap 126 none).run Tryz.prog w = .ok (.map (some w.heap.size)) (w.alloc (.map #[] 0)) := by
  simp [Instr.makeMap, run_underlying Tryz.underlying126, asInt, asIntOf, Result.andThen]
theorem occur_any (w : World) : Calls Tryz.prog 79 #[] w fun e w' => e = .returned (fvN (w.heap.size + 1)) ∧ NumR w' (w.heap.size + 1) w.heap.size [] ∧ Below w.heap.size w w' := by
  have hmm := run_makeNum
  go_enter Tryz.func79, Tryz.ntmps79
  go_wp2
  go_ret
  refine ⟨rfl, ⟨by simp [go_sem], ?_, by omega⟩, ((Below.refl _ w).alloc (Nat.le_refl _) _).alloc (by simp) _⟩
  have h := (MapI.made w).kept (W' := (w.alloc (.map #[] 0)).alloc (.cells #[.map (some w.heap.size)] 126)) (Below.heap_alloc _ _ _ (by simp))
  exact h
def NormPost (ts : List T) (w : World) (e : Ending) (w' : World) : Prop :=
  ((badL ts = true ∧ e = .returned (.tuple #[.slice none 0 0, .int .i64 1])) ∨ (badL ts = false ∧ ∃ a c, e = .returned (.tuple #[.slice a (T.nrms ts []).1.length c, .int .i64 0]) ∧ IsArgs w'.heap.size w' (T.nrms ts []).1 a c)) ∧ Below w.heap.size w w'

set_option maxRecDepth 100000 in
set_option maxHeartbeats 1000000 in
theorem norm_any (ts : List T) (hts : T.sizes ts ≤ 100000) (n₀ : Nat) (a : Option Addr) (c : Nat) (w : World) (hn : n₀ ≤ w.heap.size) (hA : IsArgs n₀ w ts a c) :
    Calls Tryz.prog 46 #[.slice a ts.length c] w (NormPost ts w) := by
  have HTS := Lib.hid (show ∀ t ∈ ts, t.size ≤ 1000000000000 from fun t ht => by obtain ⟨i, hi⟩ := List.getElem?_of_mem ht; have := sizes_take_lt hi; omega)
  have HA := Lib.hid hA
  clear hA
  go_enter Tryz.func46, Tryz.ntmps46
  go_wp2_with fail
  refine (mContains_any ts HTS.out n₀ a c w hn HA.out).mono ?_
  rintro e w1 ⟨rfl, hb⟩
  have HB1 := Lib.hid hb
  clear hb
  cases q1 : badL ts
  case true =>
    have Q1 := Lib.hid q1
    clear q1
    go_wp2
    refine bodyPost_ret (v := .tuple #[.slice none 0 0, .int .i64 1]) (by simp [results, Tryz.results46, go_sem]) rfl ?_
    exact ⟨.inl ⟨Q1.out, rfl⟩, HB1.out⟩
  have Q1 := Lib.hid q1
  clear q1
  go_wp2_with fail
  refine (occur_any w1).mono ?_
  rintro e w2 ⟨rfl, hR, hb⟩
  have HB2 := Lib.hid (HB1.out.trans (hb.mono HB1.out.size))
  have hz1 := HB1.out.size
  have CL := Lib.hid (nlist_any (w1.heap.size + 1) w1.heap.size _ ts (Nat.le_refl _) hts (fun t ht => (check_ok (badL_false Q1.out t ht)).2.2) [] (by simp; omega) n₀ a c w2 (by omega) hR (HA.out.below (HB2.out.mono hn)))
  clear hb hR
  go_wp2_with fail
  refine CL.out.mono ?_
  rintro e w3 ⟨a3, c3, rfl, hI, hR, hg⟩
  have hwB : Below w.heap.size w2 w3 := grown_below hg (by omega) HB2.out.size
  have HI := Lib.hid (hI.toArgs (n := w3.heap.size) (fun b hb => hb.2))
  have HF := Lib.hid (HB2.out.trans hwB)
  clear hI hR hg hwB
  go_wp2
  refine bodyPost_ret (v := .tuple #[.slice a3 (T.nrms ts []).1.length c3, .int .i64 0]) (by simp [results, Tryz.results46, go_sem]) rfl ?_
  exact ⟨.inr ⟨Q1.out, a3, c3, rfl, HI.out⟩, HF.out⟩

end Go.Proofs.YtbdabdjpgmnejaaGreat

/- Contract of Vars: a loop over the iterator of subterms that keeps a set and collects. -/
namespace Go.Proofs.YtbdabdjpgmnejaaGreat
set_option linter.unusedVariables false
set_option linter.unusedSimpArgs false
open Go.RowKit Go.Shelf
attribute [local go_sem] Oper.semAt_some

/-- The variables of Vars between two rounds. -/
def VarI (w : World) (pre : List (Nat × T)) (W : World) : Prop :=
  (∃ v, Boxed W (w.heap.size + 1) 40 v ∧ W.ownsRow w.heap.size 3 1 v (varsOf pre).length ((varsOf pre).map (Value.int .i64))) ∧
  W.ownsMap Tryz.prog 3 (unitElem (H := Unit)) (w.heap.size + 1 + 1) (varsOf pre).length (Maps.setOf (.agg []) ((varsOf pre).map (Lit.int .i64))) ∧
  Boxed W (w.heap.size + 1 + 1 + 1) 96 (.map (some (w.heap.size + 1 + 1))) ∧ (∀ x ∈ varsOf pre, (Lit.int .i64 x).wf = true) ∧ (varsOf pre).length ≤ pre.length ∧ Below w.heap.size w W

theorem VarI.abides (w : World) (B : Nat) (hB : w.heap.size + 5 ≤ B) : AbidesChg B 32 (VarI w) := by
  rintro pre X Y ⟨⟨v, h1, h2⟩, h3, h4, h5, h6, h7⟩ hc
  refine ⟨⟨v, boxed_below h1 hc.1 (by omega), h2.1, ?_⟩, ?_, boxed_below h4 hc.1 (by omega), h5, h6, h7.trans (hc.1.mono (by omega))⟩
  · rcases h2.2 with h | ⟨g, cap, cur, hv, hg, hh, r⟩
    · exact .inl h
    · exact .inr ⟨g, cap, cur, hv, hg, (hc.2 g _ _ _ hh (by decide)).trans hh, r⟩
  · obtain ⟨es, clock, hb, r⟩ := h3
    exact ⟨es, clock, (hc.1.block _ (by omega)).trans hb, r⟩

set_option maxRecDepth 100000 in
set_option maxHeartbeats 2000000 in
theorem vars_any (t : T) (ht : t.size ≤ 1000000000000) (n₀ : Nat) (a : Option Addr) (c : Nat) (w : World) (hn : n₀ ≤ w.heap.size) (hwf : (Lit.int .i64 t.head).wf = true) (hA : IsArgs n₀ w t.args a c) :
    Calls Tryz.prog 48 #[tm t.head a t.args.length c] w (varsPost t w) := by
  have HA := Lib.hid (hA.mono hn)
  clear hA hn n₀
  have hmm := @run_makeMap Tryz.prog
  refine (callsIn_wide (n := 9)).1 ?_
  refine callsIn_of_wp_marks Tryz.func48 rfl trivial ?_ rfl
  simp only [Tryz.ntmps48, List.size_toArray, List.length_cons, List.length_nil, Nat.reduceAdd, Nat.reduceSub, Array.replicate_succ, Array.replicate_zero, List.push_toArray, List.append_toArray, List.nil_append, List.cons_append]
  gi_wp2_with (refine ⟨trivial, ?_⟩; gi_at_call 82; refine (callsIn_wide.2 (subterms_any _ _ _ _ _)).mono ?_; rintro e w' ⟨rfl, rfl⟩)
  obtain ⟨W3, hW3⟩ : ∃ W3, (((((w.alloc (tmCells t.head a t.args.length c)).alloc (.cells #[.slice none 0 0] 40)).alloc (.map #[] 0)).alloc (.cells #[.map (some (w.heap.size + 1 + 1))] 96)).alloc (tmCells t.head a t.args.length c)) = W3 := ⟨_, rfl⟩
  have hB3 : Below w.heap.size w W3 := by rw [← hW3]; exact (((((Below.refl _ w).alloc (Nat.le_refl _) _).alloc (by simp) _).alloc (by simp; omega) _).alloc (by simp; omega) _).alloc (by simp; omega) _
  have g1 : Boxed W3 (w.heap.size + 1) 40 (.slice none 0 0) := by rw [← hW3]; exact (((boxed_new_at (by simp) _ _).alloc _).alloc _).alloc _
  have g2 : W3.ownsMap Tryz.prog 3 (unitElem (H := Unit)) (w.heap.size + 1 + 1) 0 (.map []) := by
    rw [← hW3]
    have h := ((World.ownsMap_made ((w.alloc (tmCells t.head a t.args.length c)).alloc (.cells #[.slice none 0 0] 40)) Tryz.prog 3 (unitElem (H := Unit))).alloc (.cells #[.map (some (w.heap.size + 1 + 1))] 96)).alloc (tmCells t.head a t.args.length c)
    simpa using h
  have g3 : Boxed W3 (w.heap.size + 1 + 1 + 1) 96 (.map (some (w.heap.size + 1 + 1))) := by rw [← hW3]; exact (boxed_new_at (by simp) _ _).alloc _
  have f3 : W3.cell? ⟨w.heap.size + 1 + 1 + 1 + 1, 0, none⟩ = some (.int .i64 t.head) := by rw [← hW3]; simp [go_sem]
  have f4 : W3.cell? ⟨w.heap.size + 1 + 1 + 1 + 1, 1, none⟩ = some (.slice a t.args.length c) := by rw [← hW3]; simp [go_sem]
  have hs : W3.heap.size = w.heap.size + 5 := by rw [← hW3]; simp
  rw [hW3]
  clear hW3 hmm
  refine wpIn_rangeO rfl (by omega) (gf := 118) (lb := #[.pointer (some ⟨w.heap.size + 1 + 1 + 1 + 1, 0, none⟩)]) rfl trivial (enters_of Tryz.func118 (by kernel_rfl) rfl)
    (subterms_seqO Fence.wide 8 trivial rfl (by omega) t ht (w.heap.size + 1 + 1 + 1 + 1) w.heap.size a c W3 (by omega) (by omega) hwf f3 f4 (HA.out.below hB3)) (Below.refl _ _) (by omega) (fun _ _ _ _ h => h.size) (fun _ _ _ _ _ h hb => h.below hb)
    (VarI w) (fun _ _ _ => False)
    (VarI.abides w _ (by omega))
    (fun _ _ _ _ h _ => h)
    ⟨⟨_, g1, World.ownsRow_nil _ _ _ _⟩, g2, g3, by simp [varsOf], by simp [varsOf], hB3⟩
    (fun x _ a' W => ∃ Bx a1 c1, W3.heap.size ≤ Bx ∧ W.cell? ⟨Bx, 0, none⟩ = some (.int .i64 x.2.head) ∧ W.cell? ⟨Bx, 1, none⟩ = some (.slice a1 x.2.args.length c1) ∧ (Lit.int .i64 x.2.head).wf = true ∧ a' = { tmps := #[tm t.head a t.args.length c, Value.pointer (some ⟨w.heap.size, 0, none⟩), Value.slice none 0 0, Value.pointer (some ⟨w.heap.size + 1, 0, none⟩), Value.pointer (some ⟨w.heap.size + 1 + 1 + 1, 0, none⟩), undef, Value.pointer (some ⟨Bx, 0, none⟩), undef, undef, undef, Value.map (some (w.heap.size + 1 + 1)), Value.agg #[Value.int IntKind.i64 t.head, Value.slice a t.args.length c], Value.func (Fn.func 118) #[] #[Value.pointer (some ⟨w.heap.size + 1 + 1 + 1 + 1, 0, none⟩)], Value.int .i64 x.1, tm x.2.head a1 x.2.args.length c1, undef, undef, undef, undef, undef, undef, undef, undef, undef, undef, undef, undef, undef, undef, undef, undef, undef, undef, undef, undef, undef], defers := [] })
    (fun x vs a' W l o o' hl ho hoc ⟨Bx, a1, c1, h1, h2, h3, h4, h5⟩ => ⟨Bx, a1, c1, h1, cell_kept h2 (grownBy_putObj' W l o') (fun r e => by cases e; exact ⟨o, ho, hoc⟩), cell_kept h3 (grownBy_putObj' W l o') (fun r e => by cases e; exact ⟨o, ho, hoc⟩), h4, h5⟩) ?assign ?body ?done ?stop
  case assign =>
    rintro l pre x vs W K hsz hi ⟨_, hxw, a1, c1, rfl, _⟩ hK
    have hsz' : w.heap.size + 5 ≤ W.heap.size := by omega
    simp only [fold2, List.setIfInBounds_toArray, List.set]
    gi_wp2
    refine hK _ _ ((KeptO.refl _ _ _ _).alloc (by omega) _) ?_ ⟨W.heap.size, a1, c1, hsz, by simp [go_sem], by simp [go_sem], hxw, rfl⟩
    exact VarI.abides w (w.heap.size + 5) (Nat.le_refl _) _ _ _ hi (Chg.alloc _ _ W hsz' _)
  case body =>
    rintro l pre x vs a' W hsz ⟨⟨v, k1, kr⟩, km, k3, kw, kl, k6⟩ hm ⟨Bx, a1, c1, hBx, hx1, hx2, hxw, rfl⟩
    have hpl := hm.length
    clear hm
    have hz : w.heap.size + 5 ≤ W.heap.size := by omega
    have d1 := k1.cell
    have d3 := k3.cell
    have e1 := k1.frozen
    have HS := Lib.hid hs
    have K1 := Lib.hid k1
    have KR := Lib.hid kr
    have KM := Lib.hid km
    have K3 := Lib.hid k3
    have K6 := Lib.hid k6
    have KW := Lib.hid kw
    have HXW := Lib.hid hxw
    have hxl := (wf_low hxw).1
    clear hs k1 kr km k3 k6 hxw kw
    have hBl : Bx < W.heap.size := World.block_lt_of_cell? W ⟨Bx, 0, none⟩ hx1
    have hx1' : ∀ o, (W.alloc o).cell? ⟨Bx, 0, none⟩ = some (.int .i64 x.2.head) := fun o => (World.cell?_of_block (a := ⟨Bx, 0, none⟩) (Below.heap_alloc W o Bx hBl)).trans hx1
    have hx2' : ∀ o, (W.alloc o).cell? ⟨Bx, 1, none⟩ = some (.slice a1 x.2.args.length c1) := fun o => (World.cell?_of_block (a := ⟨Bx, 1, none⟩) (Below.heap_alloc W o Bx hBl)).trans hx2
    have d3' : ∀ o o', ((W.alloc o).alloc o').cell? ⟨w.heap.size + 1 + 1 + 1, 0, none⟩ = some (.map (some (w.heap.size + 1 + 1))) := fun o o' => ((K3.out.alloc o).alloc o').cell
    have d3'' : ∀ o o' o'', (((W.alloc o).alloc o').alloc o'').cell? ⟨w.heap.size + 1 + 1 + 1, 0, none⟩ = some (.map (some (w.heap.size + 1 + 1))) := fun o o' o'' => (((K3.out.alloc o).alloc o').alloc o'').cell
    by_cases hneg : x.2.head < 0
    · have hdn : decide (x.2.head < 0) = true := by simpa using hneg
      have hkw : (Lit.int .i64 (-1 - x.2.head)).wf = true := WalkArith.wf_i64 (by omega)
      have HKW := Lib.hid hkw
      clear hkw
      obtain ⟨i0, hi, hz0, hz1, hz2⟩ := info_parts info3
      cases hct : (varsOf pre).contains (-1 - x.2.head)
      · have hhas := has_ints (varsOf pre) (-1 - x.2.head)
        rw [hct] at hhas
        have HCT := Lib.hid hct
        clear hct
        gi_wp2_with (first
          | (refine ⟨trivial, ?_⟩; gi_at_call 83; go_must (refine (CallsIn.inRound l (callsIn_wide.2 (isVariable_any _ _ _ _ _))).mono ?_); rintro e w2 ⟨rfl, rfl⟩)
          | (refine ⟨trivial, ?_⟩; gi_at_call 84; go_must (refine (CallsIn.inRound l (callsIn_wide.2 (variable_any _ _ _ _ _ hxl hneg))).mono ?_); rintro e w2 ⟨rfl, rfl⟩)
          | (gi_at_lookup; go_must (refine wpListIn_lookup_own_unit _ rfl _ _ 96 rfl 3 101 (Maps.int_keyed Tryz.underlying3) Tryz.underlying96 (Tryz.zeroValue101 _) (w.heap.size + 1 + 1) (varsOf pre).length _ rfl ((KM.out.alloc _).alloc _) _ _ rfl (Maps.keyOf_int_mk Tryz.underlying3 HKW.out) ?_))
          | (gi_at_mapUpdate; refine stopHere ?_))
        refine Lib.hid ?_
        refine wpListIn_mapUpdate_own _ rfl _ _ _ 96 rfl 3 101 (Maps.int_keyed Tryz.underlying3) Tryz.underlying96 _ (w.heap.size + 1 + 1) (varsOf pre).length _ rfl (((KM.out.alloc _).alloc _).alloc _) (by unfold maxLen; omega) _ _ _ rfl rfl (Maps.keyOf_int_mk Tryz.underlying3 HKW.out) (.agg []) [] unitElem_mk ?_
        intro w1 hown1 hgrow1
        have b1 := (((K1.out.alloc (tmCells x.2.head a1 x.2.args.length c1)).alloc (tmCells x.2.head a1 x.2.args.length c1)).alloc (.cells #[] 101)).kept hgrow1 (by simp)
        have r1 := (((KR.out.alloc (tmCells x.2.head a1 x.2.args.length c1)).alloc (tmCells x.2.head a1 x.2.args.length c1)).alloc (.cells #[] 101)).kept hgrow1 (row_not_map KM.out KR.out)
        have dd1 := b1.cell
        have ss1 : W.heap.size + 3 ≤ w1.heap.size := by have := hgrow1.size; simpa using this
        have B1 := Lib.hid b1
        have R1 := Lib.hid r1
        have O1 := Lib.hid hown1
        have G1 := Lib.hid hgrow1
        clear b1 r1 hown1 hgrow1
        gi_wp2_with (gi_at_builtin; refine stopHere ?_)
        refine Lib.hid ?_
        refine wpListIn_append_own _ rfl _ _ 40 rfl w.heap.size 3 i0 (.int .i64 0) 1 8 Tryz.underlying40 hi hz0 hz1 hz2 rfl (by decide) v (varsOf pre).length _ rfl (R1.out.alloc _) ⟨w1.heap.size, 0, none⟩ 1 1 [.int .i64 (-1 - x.2.head)] rfl rfl (cell_one_at _ _ _ _ rfl) (by simp [Value.oneCell']) (by unfold maxLen; omega) (by omega) (by simp; omega) ?_
        intro v' w2 hown2 hgrow2 _
        obtain ⟨g', cap', rfl⟩ := ownsRow_succ hown2
        have b2 := (B1.out.alloc _).kept hgrow2 (B1.out.not_row (by decide) R1.out)
        have dd2 := b2.cell
        have ee2 := b2.frozen
        have B2 := Lib.hid b2
        have O2 := Lib.hid hown2
        have G2 := Lib.hid hgrow2
        clear b2 hown2 hgrow2
        gi_wp2
        have hv : varsOf (pre ++ [x]) = varsOf pre ++ [-1 - x.2.head] := by rw [varsOf_snoc, varStep, if_pos (by omega), HCT.out]; rfl
        have hrow : ∀ k, v.ownBlock = some k → w.heap.size ≤ k ∧ (k < W3.heap.size ∨ ∃ cs e fz, W.heap[k]? = some (Obj.cells cs e fz) ∧ subOwn e = false) := by
          intro k hk
          obtain ⟨cs, fz, h⟩ := Lib.ownsRow_kind KR.out k hk
          exact ⟨(KR.out.lt k hk).1, .inr ⟨cs, _, fz, h, rfl⟩⟩
        have b3 := B2.out.set (.slice (some ⟨g', 0, none⟩) ((varsOf pre).length + 1) cap')
        have r3 := O2.out.kept (grownBy_setCell' w2 (w.heap.size + 1) (.slice (some ⟨g', 0, none⟩) ((varsOf pre).length + 1) cap')) (.inr (B2.out.not_row (by decide) O2.out).symm)
        have m2 := (O1.out.alloc (.cells #[.int .i64 (-1 - x.2.head)] 3)).kept G2.out (fun e => by
          rcases row_not_map KM.out KR.out with h | h
          · rw [h] at e; cases e
          · exact h e.symm)
        have m3 := m2.kept (grownBy_setCell' w2 (w.heap.size + 1) (.slice (some ⟨g', 0, none⟩) ((varsOf pre).length + 1) cap')) (by simp)
        have q1 := (((K3.out.alloc (tmCells x.2.head a1 x.2.args.length c1)).alloc (tmCells x.2.head a1 x.2.args.length c1)).alloc (.cells #[] 101)).kept G1.out (by simp)
        have q2 := (q1.alloc (.cells #[.int .i64 (-1 - x.2.head)] 3)).kept G2.out (q1.not_row (by decide) R1.out)
        have q3 := boxed_other q2 (B' := w.heap.size + 1) (by omega) 0 (.slice (some ⟨g', 0, none⟩) ((varsOf pre).length + 1) cap')
        have kk : KeptO w.heap.size W3.heap.size subOwn W (w2.setCell ⟨w.heap.size + 1, 0, none⟩ (.slice (some ⟨g', 0, none⟩) ((varsOf pre).length + 1) cap')) := by
          refine (((((((KeptO.refl _ _ _ _).alloc (by omega) _).alloc (by omega) _).alloc (by omega) _).grown G1.out (by simp; omega) ?_).alloc (by omega) _).grown G2.out (by simp; omega) hrow).setCell (p := ⟨w.heap.size + 1, 0, none⟩) (by simp) (by have := HS.out; simp; omega) _
          intro k e; cases e; exact ⟨by omega, .inl (by have := HS.out; omega)⟩
        refine ⟨kk, ⟨_, b3, ?_⟩, ?_, q3, ?_, ?_, K6.out.trans kk.1⟩
        · rw [hv]; simpa using r3
        · rw [hv]; simpa [Maps.setOf_snoc] using m3
        · rw [hv]
          intro z hz
          rcases List.mem_append.1 hz with h | h
          · exact KW.out z h
          · obtain rfl := List.mem_singleton.1 h; exact HKW.out
        · rw [hv]; simp; exact kl
      · have hhas := has_ints (varsOf pre) (-1 - x.2.head)
        rw [hct] at hhas
        have HCT := Lib.hid hct
        clear hct
        gi_wp2_with (first
          | (refine ⟨trivial, ?_⟩; gi_at_call 83; go_must (refine (CallsIn.inRound l (callsIn_wide.2 (isVariable_any _ _ _ _ _))).mono ?_); rintro e w2 ⟨rfl, rfl⟩)
          | (refine ⟨trivial, ?_⟩; gi_at_call 84; go_must (refine (CallsIn.inRound l (callsIn_wide.2 (variable_any _ _ _ _ _ hxl hneg))).mono ?_); rintro e w2 ⟨rfl, rfl⟩)
          | (gi_at_lookup; go_must (refine wpListIn_lookup_own_unit _ rfl _ _ 96 rfl 3 101 (Maps.int_keyed Tryz.underlying3) Tryz.underlying96 (Tryz.zeroValue101 _) (w.heap.size + 1 + 1) (varsOf pre).length _ rfl ((KM.out.alloc _).alloc _) _ _ rfl (Maps.keyOf_int_mk Tryz.underlying3 HKW.out) ?_)))
        have hv : varsOf (pre ++ [x]) = varsOf pre := by rw [varsOf_snoc, varStep, if_pos (by omega), HCT.out]; rfl
        refine ⟨(((KeptO.refl _ _ _ _).alloc (by omega) _).alloc (by omega) _).alloc (by omega) _, ?_⟩
        have hi := VarI.abides w (w.heap.size + 5) (Nat.le_refl _) _ _ _ ⟨⟨v, K1.out, KR.out⟩, KM.out, K3.out, KW.out, kl, K6.out⟩ (((Chg.alloc _ _ W hz (tmCells x.2.head a1 x.2.args.length c1)).trans (Chg.alloc _ _ _ (by simp; omega) (tmCells x.2.head a1 x.2.args.length c1))).trans (Chg.alloc _ _ _ (by simp; omega) (.cells #[] 101)))
        obtain ⟨q1, q2, q3, q4, q5, q6⟩ := hi
        exact ⟨by rw [hv]; exact q1, by rw [hv]; exact q2, q3, by rw [hv]; exact q4, by rw [hv]; simp; omega, q6⟩
    · have hdn : decide (x.2.head < 0) = false := by simpa using hneg
      gi_wp2_with (refine ⟨trivial, ?_⟩; gi_at_call 83; go_must (refine (CallsIn.inRound l (callsIn_wide.2 (isVariable_any _ _ _ _ _))).mono ?_); rintro e w2 ⟨rfl, rfl⟩)
      have hv : varsOf (pre ++ [x]) = varsOf pre := by rw [varsOf_snoc, varStep, if_neg (by omega)]
      refine ⟨(KeptO.refl _ _ _ _).alloc (by omega) _, ?_⟩
      have hi : VarI w pre (W.alloc (tmCells x.2.head a1 x.2.args.length c1)) := VarI.abides w (w.heap.size + 5) (Nat.le_refl _) _ _ _ ⟨⟨v, K1.out, KR.out⟩, KM.out, K3.out, KW.out, kl, K6.out⟩ (Chg.alloc _ _ W hz _)
      obtain ⟨q1, q2, q3, q4, q5, q6⟩ := hi
      exact ⟨by rw [hv]; exact q1, by rw [hv]; exact q2, q3, by rw [hv]; exact q4, by rw [hv]; simp; omega, q6⟩
  case done =>
    rintro D xs W hD rfl ⟨⟨v, k1, kr⟩, km, k3, kw, kl, k6⟩ hK
    have d1 := k1.cell
    gi_wp2
    refine ⟨by simp, .inl ⟨_, _, rfl, run_takeDeferred hK, ?_⟩⟩
    refine ⟨_, results_tmp rfl _ _ _, v, rfl, ?_, k6.trans (below_putObj _ hK (by omega))⟩
    have hr := ownsRow_putObj kr (.deferred none) hK rfl
    rcases hr.2 with ⟨rfl, h0⟩ | ⟨g, cap, cur, rfl, hg, hh, hn, hc, r⟩
    · exact .inl ⟨rfl, List.eq_nil_of_length_eq_zero h0⟩
    · refine .inr ⟨g, cap, rfl, (Array.getElem?_eq_some_iff.1 hh).1, hn, hc, fun j z hz => ?_⟩
      have hj : j < (varsOf (T.subs 1 t)).length := (List.getElem?_eq_some_iff.1 hz).1
      rw [hr.cellAt j (by omega), List.getElem?_map, hz]; rfl
  case stop =>
    rintro D c pre W _ _ h _
    exact h.elim

end Go.Proofs.YtbdabdjpgmnejaaGreat

/- Ck0: split off Ap0. -/
namespace Go.Proofs.YtbdabdjpgmnejaaGreat
set_option linter.unusedVariables false
set_option linter.unusedSimpArgs false
open Go.RowKit Go.Shelf

set_option maxRecDepth 100000 in
set_option maxHeartbeats 1000000 in
theorem checked_any (x : T) (hx : x.size ≤ 1000000000000) (ok : Nat → Prop) (a : Option Addr) (c : Nat) (w : World) (hok : ∀ b, ok b → b < w.heap.size) (hwf : (Lit.int .i64 x.head).wf = true) (hA : IsArgsp ok w x.args a c) :
    Calls Tryz.prog 106 #[tm x.head a x.args.length c] w (TEPostp ok (endT x) x.check w) := by
  obtain ⟨w2, hw2⟩ : ∃ w2, (w.alloc (tmCells x.head a x.args.length c)).alloc (tmCells 0 none 0 0) = w2 := ⟨_, rfl⟩
  have hB2 : Below w.heap.size w w2 := by rw [← hw2]; exact ((Below.refl _ w).alloc (Nat.le_refl _) _).alloc (by simp) _
  have hs2 : w2.heap.size = w.heap.size + 2 := by rw [← hw2]; simp
  have L2 := Lib.hid (show ∀ W, Below w2.heap.size w2 W → W.cell? ⟨w.heap.size, 0, none⟩ = some (.int .i64 x.head) ∧ W.cell? ⟨w.heap.size, 1, none⟩ = some (.slice a x.args.length c) ∧ W.cell? ⟨w.heap.size + 1, 0, none⟩ = some (.int .i64 0) ∧ W.cell? ⟨w.heap.size + 1, 1, none⟩ = some (.slice none 0 0) ∧ W.frozen? ⟨w.heap.size + 1, 0, none⟩ = false ∧ W.frozen? ⟨w.heap.size + 1, 1, none⟩ = false from fun W hW =>
    ⟨(hW.cell (p := ⟨w.heap.size, 0, none⟩) (by simp; omega)).trans (by rw [← hw2]; simp [go_sem]), (hW.cell (p := ⟨w.heap.size, 1, none⟩) (by simp; omega)).trans (by rw [← hw2]; simp [go_sem]), (hW.cell (p := ⟨w.heap.size + 1, 0, none⟩) (by simp; omega)).trans (by rw [← hw2]; simp [go_sem]), (hW.cell (p := ⟨w.heap.size + 1, 1, none⟩) (by simp; omega)).trans (by rw [← hw2]; simp [go_sem]), (hW.frozen (p := ⟨w.heap.size + 1, 0, none⟩) (by simp; omega)).trans (by rw [← hw2]; simp [go_sem]), (hW.frozen (p := ⟨w.heap.size + 1, 1, none⟩) (by simp; omega)).trans (by rw [← hw2]; simp [go_sem])⟩)
  have CC := Lib.hid (check_any x hx w.heap.size a c w2 (by omega) hwf ((hA.toArgs hok).below hB2))
  have HW := Lib.hid hwf
  have HA := Lib.hid hA
  have HB2 := Lib.hid hB2
  clear hwf hA hB2 hs2
  obtain ⟨c0, c1, _, _, _, _⟩ := L2.out w2 (Below.refl _ _)
  go_enter Tryz.func106, Tryz.ntmps106
  go_wp2_with fail
  refine CC.out.mono ?_
  rintro e w3 ⟨rfl, hb3⟩
  clear c0 c1 hw2
  obtain ⟨c0, c1, r0, r1, rf0, rf1⟩ := L2.out w3 hb3
  have HB3 := Lib.hid (HB2.out.trans (hb3.mono HB2.out.size))
  have hz3 : w.heap.size ≤ w3.heap.size := HB3.out.size
  clear hb3
  have HE := Lib.hid (show endT x = if x.check = 0 then x else Z0 from rfl)
  by_cases q : x.check = 0
  · rw [q]
    have he : endT x = x := by unfold endT; rw [if_pos q]
    go_wp2
    refine bodyPost_ret (v := .tuple #[tm x.head a x.args.length c, .int .i64 0]) (by simp [results, Tryz.results106, go_sem, r0, r1]) rfl ?_
    first | rw [he, q] | rw [he] | rw [q] | skip
    exact ⟨a, c, rfl, HW.out, HA.out.keep (fun b hb => ((Below.heap_setCell _ _ _ _ (by have := hok b hb; show b ≠ w.heap.size + 1; omega)).trans (Below.heap_setCell _ _ _ _ (by have := hok b hb; show b ≠ w.heap.size + 1; omega))).trans (HB3.out.block b (hok b hb))) (fun b hb => hb), (HB3.out.setCell (p := ⟨w.heap.size + 1, 0, none⟩) (by simp) _).setCell (p := ⟨w.heap.size + 1, 1, none⟩) (by simp) _⟩
  · have he : endT x = Z0 := by unfold endT; rw [if_neg q]
    generalize hk : x.check = k at q he ⊢
    have HK := Lib.hid hk
    clear hk
    have hne : (k == 0) = false := by simpa using q
    go_wp2
    refine bodyPost_ret (v := .tuple #[tm 0 none 0 0, .int .i64 k]) (by simp [results, Tryz.results106, go_sem, r0, r1]) rfl ?_
    first | rw [he, HK.out] | rw [HK.out] | rw [he] | skip
    exact ⟨none, 0, rfl, wf_z0, isArgsp_z _ _, (HB3.out.setCell (p := ⟨w.heap.size + 1, 0, none⟩) (by simp) _).setCell (p := ⟨w.heap.size + 1, 1, none⟩) (by simp) _⟩

end Go.Proofs.YtbdabdjpgmnejaaGreat

/- Sv1: split off Sb. -/
namespace Go.Proofs.YtbdabdjpgmnejaaGreat
set_option linter.unusedVariables false
set_option linter.unusedSimpArgs false
open Go.RowKit

theorem sVariable_any (v : Int) (w : World) (h1 : -9223372036854775808 ≤ v) (h2 : v ≤ 9223372036854775807) :
    Calls Tryz.prog 133 #[.int .i64 v] w fun e w' => e = .returned (tm (-1 - v) none 0 0) ∧ Below w.heap.size w w' := by
  go_enter Tryz.func133, Tryz.ntmps133
  go_wp2
  exact bodyPost_ret (v := tm (-1 - v) none 0 0) (by simp [results, Tryz.results133, go_sem]) rfl ⟨rfl, ((Below.refl _ _).alloc (Nat.le_refl _) _)⟩

end Go.Proofs.YtbdabdjpgmnejaaGreat
