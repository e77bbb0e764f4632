/- QDi: joined of Reb, RSh, Ss0, Sh0, RShf. -/
import Derived.Test.YtbdabdjpgmnejaaGreatQDh
import Derived.Test.YtbdabdjpgmnejaaGreatQBf
import Derived.Test.YtbdabdjpgmnejaaGreatQBh
import Derived.Test.YtbdabdjpgmnejaaGreatQBg
import Derived.Test.YtbdabdjpgmnejaaGreatQDg
import Derived.Test.YtbdabdjpgmnejaaGreatQBm
/- Contract of rebuild: a term anew, with a replacement for each variable. -/
namespace Go.Proofs.YtbdabdjpgmnejaaGreat
set_option linter.unusedVariables false
set_option linter.unusedSimpArgs false
open Go.RowKit

/-- The cells of a block begin with those of a row that lies in it. -/
theorem row_split {w : World} {g : Nat} {cur : Array Value} {ty : TypeId} {fr : Nat × Nat} (hb : w.heap[g]? = some (.cells cur ty fr)) {os : List Value} (hc : ∀ j u, os[j]? = some u → w.cell? ⟨g, 0 + j, none⟩ = some u) : ∃ sp, cur.toList = os ++ sp := by
  refine ⟨cur.toList.drop os.length, ?_⟩
  apply List.ext_getElem?
  intro i
  by_cases hi : i < os.length
  · rw [List.getElem?_append_left hi, List.getElem?_eq_getElem hi]
    have h := hc i _ (List.getElem?_eq_getElem hi)
    rw [Nat.zero_add] at h
    simpa [World.cell?, hb] using h
  · rw [List.getElem?_append_right (by omega), List.getElem?_drop]
    congr 1
    omega
theorem cell_of_split {w : World} {g : Nat} {cur : Array Value} {ty : TypeId} {fr : Nat × Nat} (hb : w.heap[g]? = some (.cells cur ty fr)) {l : List Value} (hl : cur.toList = l) {j : Nat} {u : Value} (hu : l[j]? = some u) : w.cell? ⟨g, j, none⟩ = some u := by
  subst hl
  simpa [World.cell?, hb] using hu

structure RbI (n₀ : Nat) (ts xs : List T) (w w3 : World) (g c2 : Nat) (k : Nat) (vs os sp : List Value) (cur : Array Value) (wr : World) : Prop where
  blk : wr.heap[g]? = some (.cells cur 34 (0, 0))
  cells : cur.toList = vs ++ (os ++ sp)
  new : RowVals (fun b => w.heap.size + 2 ≤ b ∧ b < wr.heap.size ∧ b ≠ g) wr (xs.take k) vs
  old : RowVals (· < n₀) wr (ts.drop k) os
  below : Below (w.heap.size + 2) w3 wr

def RbX (n₀ : Nat) (ts xs : List T) (w w3 : World) (g c2 : Nat) (i : Value) (wr : World) : Prop := ∃ (k : Nat) (vs os sp : List Value) (cur : Array Value), k ≤ ts.length ∧ i = .int .i64 k ∧ RbI n₀ ts xs w w3 g c2 k vs os sp cur wr

theorem rb_step {n₀ : Nat} {ts xs : List T} {w w3 wr w5 : World} {g c2 k : Nat} {h0 s0 : Value} {vs os sp : List Value} {cur : Array Value} {x t : T} {a : Option Addr} {c : Nat} {ob : Obj} (hn : n₀ ≤ w.heap.size) (hg : w.heap.size + 2 ≤ g) (I : RbI n₀ ts xs w w3 g c2 k vs (h0 :: s0 :: os) sp cur wr) (hk : ts[k]? = some t) (hx : xs[k]? = some x) (hz : w.heap.size + 2 ≤ wr.heap.size) (hxw : (Lit.int .i64 x.head).wf = true)
    (hb5 : Below (wr.alloc ob).heap.size (wr.alloc ob) w5) (hA : IsArgsp (fun b => (wr.alloc ob).heap.size ≤ b ∧ b < w5.heap.size) w5 x.args a c) :
    ∃ cur', RbI n₀ ts xs w w3 g c2 (k + 1) (vs ++ [.int .i64 x.head, .slice a x.args.length c]) os sp cur' ((w5.setCell ⟨g, k * 2, none⟩ (.int .i64 x.head)).setCell ⟨g, k * 2 + 1, none⟩ (.slice a x.args.length c)) := by
  obtain ⟨i1, i2, i3, i4, i5⟩ := I
  have hgl : g < wr.heap.size := (Array.getElem?_eq_some_iff.1 i1).1
  have hkx := (List.getElem?_eq_some_iff.1 hx).1
  have hlen := i3.length
  rw [List.length_take, Nat.min_eq_left (by omega)] at hlen
  have hb5' : Below wr.heap.size wr w5 := ((Below.refl _ wr).alloc (Nat.le_refl _) _).trans (hb5.mono (by simp))
  have hz5 := hb5.size
  rw [heap_alloc_size] at hz5
  have h5 : w5.heap[g]? = some (.cells cur 34 (0, 0)) := (hb5'.block g hgl).trans i1
  have hoth : ∀ b, b ≠ g → ((w5.setCell ⟨g, k * 2, none⟩ (.int .i64 x.head)).setCell ⟨g, k * 2 + 1, none⟩ (.slice a x.args.length c)).heap[b]? = w5.heap[b]? := fun b hb => (Below.heap_setCell _ _ _ _ hb).trans (Below.heap_setCell _ _ _ _ hb)
  refine ⟨(cur.setIfInBounds (k * 2) (.int .i64 x.head)).setIfInBounds (k * 2 + 1) (.slice a x.args.length c), ?_, ?_, ?_, ?_, ?_⟩
  · rw [heap_setCell_same (heap_setCell_same h5 _)]
  · rw [Array.toList_setIfInBounds, Array.toList_setIfInBounds, i2]
    rw [List.set_append_right _ _ (by omega), show k * 2 - vs.length = 0 from by omega]
    simp only [List.cons_append, List.set_cons_zero]
    rw [List.set_append_right _ _ (by omega), show k * 2 + 1 - vs.length = 1 from by omega]
    simp
  · rw [List.take_succ_eq_append_getElem hkx, (List.getElem?_eq_some_iff.1 hx).2]
    have e1 := hA.keep (ok' := fun b => w.heap.size + 2 ≤ b ∧ b < ((w5.setCell ⟨g, k * 2, none⟩ (.int .i64 x.head)).setCell ⟨g, k * 2 + 1, none⟩ (.slice a x.args.length c)).heap.size ∧ b ≠ g) (fun b hb => hoth b (by have := hb.1; rw [heap_alloc_size] at this; omega)) (fun b hb => by
      have h1 := hb.1
      have h2 := hb.2
      rw [heap_alloc_size] at h1
      exact ⟨by omega, by simpa using h2, by omega⟩)
    have e2 := RowVals.keep (ok' := fun b => w.heap.size + 2 ≤ b ∧ b < ((w5.setCell ⟨g, k * 2, none⟩ (.int .i64 x.head)).setCell ⟨g, k * 2 + 1, none⟩ (.slice a x.args.length c)).heap.size ∧ b ≠ g) (fun b hb => (hoth b hb.2.2).trans (hb5'.block b hb.2.1)) (fun b hb => ⟨hb.1, by have := hb.2.1; simp; omega, hb.2.2⟩) i3
    exact RowVals.snoc hxw e1 e2
  · rw [List.drop_eq_getElem_cons (List.getElem?_eq_some_iff.1 hk).1] at i4
    exact RowVals.keep (fun b hb => (hoth b (by omega)).trans (hb5'.block b (by omega))) (fun b hb => hb) i4.2.2.2
  · exact ((i5.trans (hb5'.mono (by omega))).setCell (p := ⟨g, k * 2, none⟩) hg _).setCell (p := ⟨g, k * 2 + 1, none⟩) hg _

set_option maxRecDepth 100000 in
set_option maxHeartbeats 4000000 in
theorem rebuild_any (gf : FuncId) (hcf : ∀ args W, (callFunc gf args).run Tryz.prog W = .ok (.enter gf args) W) (m : Value) (f : Int → T) : ∀ (N : Nat) (t : T), t.size ≤ N → t.size ≤ 1000000000000 → bad (T.subs 1 t) = false → ∀ (n₀ : Nat) (a : Option Addr) (c : Nat) (w : World), n₀ ≤ w.heap.size → (Lit.int .i64 t.head).wf = true → IsArgs n₀ w t.args a c →
    (∀ W v, Below w.heap.size w W → 0 ≤ v → v ≤ 255 → Calls Tryz.prog gf #[m, .int .i64 v] W (RepPost (f v) W)) →
    Calls Tryz.prog 107 #[tm t.head a t.args.length c, .func (.func gf) #[m] #[]] w (RepPost (t.sub f) w) := by
  intro N
  induction N with
  | zero => intro t ht; have := T.size_pos t; omega
  | succ N ih =>
    intro t ht hbig hgd n₀ a c w hn hwf hA hC
    have IH := Lib.hid ih
    have HWF := Lib.hid hwf
    have HC := Lib.hid hC
    have HGD := Lib.hid hgd
    have hsz := T.size_eq t
    have hlz := T.sizes_ge_length t.args
    have hlc : t.args.length ≤ c ∧ c ≤ maxLen := ⟨hA.1, hA.2.1⟩
    unfold maxLen at hlc
    obtain ⟨hl1, hl2⟩ := hlc
    have HS := Lib.hid hsz
    have hlen : t.args.length ≤ 1000000000000 := by omega
    have HA := Lib.hid hA
    have hok := good_head hgd
    obtain ⟨hw1, hw2⟩ := wf_low hwf
    clear ih hwf hA hsz hlz hC hgd
    obtain ⟨w2, hw2'⟩ : ∃ w2, (w.alloc (tmCells t.head a t.args.length c)).alloc (tmCells 0 none 0 0) = w2 := ⟨_, rfl⟩
    have hB2 : Below w.heap.size w w2 := by rw [← hw2']; exact ((Below.refl _ w).alloc (Nat.le_refl _) _).alloc (by simp) _
    have hs2 : w2.heap.size = w.heap.size + 2 := by rw [← hw2']; simp
    have L2 := Lib.hid (show ∀ W, Below (w.heap.size + 2) w2 W → W.cell? ⟨w.heap.size, 0, none⟩ = some (.int .i64 t.head) ∧ W.cell? ⟨w.heap.size, 1, none⟩ = some (.slice a t.args.length c) ∧ W.cell? ⟨w.heap.size + 1, 0, none⟩ = some (.int .i64 0) ∧ W.cell? ⟨w.heap.size + 1, 1, none⟩ = some (.slice none 0 0) ∧ W.frozen? ⟨w.heap.size + 1, 0, none⟩ = false ∧ W.frozen? ⟨w.heap.size + 1, 1, none⟩ = false from fun W hW =>
      ⟨(hW.cell (p := ⟨w.heap.size, 0, none⟩) (by simp)).trans (by rw [← hw2']; simp [go_sem]), (hW.cell (p := ⟨w.heap.size, 1, none⟩) (by simp)).trans (by rw [← hw2']; simp [go_sem]), (hW.cell (p := ⟨w.heap.size + 1, 0, none⟩) (by simp)).trans (by rw [← hw2']; simp [go_sem]), (hW.cell (p := ⟨w.heap.size + 1, 1, none⟩) (by simp)).trans (by rw [← hw2']; simp [go_sem]), (hW.frozen (p := ⟨w.heap.size + 1, 0, none⟩) (by simp)).trans (by rw [← hw2']; simp [go_sem]), (hW.frozen (p := ⟨w.heap.size + 1, 1, none⟩) (by simp)).trans (by rw [← hw2']; simp [go_sem])⟩)
    have HB2 := Lib.hid hB2
    have HS2 := Lib.hid hs2
    clear hB2 hs2
    obtain ⟨c0, c1, r0, r1, rf0, rf1⟩ := L2.out w2 (Below.refl _ _)
    by_cases q : t.head < 0
    · have hv : 0 ≤ -1 - t.head ∧ -1 - t.head ≤ 255 := by
        simp only [okB, if_pos q, Bool.and_eq_true, decide_eq_true_iff] at hok
        omega
      have hsub := T.sub_neg (f := f) q
      have CC := Lib.hid (HC.out w2 (-1 - t.head) HB2.out hv.1 hv.2)
      go_enter Tryz.func107, Tryz.ntmps107
      go_wp2_with fail
      refine CC.out.mono ?_
      rintro e w3 ⟨a3, c3, rfl, hw3, hI3, hb3⟩
      clear c0 c1 r0 r1 rf0 rf1 hw2'
      obtain ⟨c0, c1, r0, r1, rf0, rf1⟩ := L2.out w3 (by rw [← HS2.out]; exact hb3)
      have HW3 := Lib.hid hw3
      have HI3 := Lib.hid hI3
      have HB3 := Lib.hid (HB2.out.trans (hb3.mono HB2.out.size))
      clear hw3 hI3 hb3
      go_wp2
      refine bodyPost_ret (v := tm (f (-1 - t.head)).head a3 (f (-1 - t.head)).args.length c3) (by simp [results, Tryz.results107, go_sem, r0, r1]) rfl ?_
      rw [hsub]
      refine ⟨a3, c3, rfl, HW3.out, HI3.out.keep (fun b hb => ?_) (fun b hb => ⟨by have := hb.1; have := HS2.out; omega, by simpa using hb.2⟩), (HB3.out.setCell (p := ⟨w.heap.size + 1, 0, none⟩) (by simp) _).setCell (p := ⟨w.heap.size + 1, 1, none⟩) (by simp) _⟩
      have h := hb.1
      rw [HS2.out] at h
      exact (Below.heap_setCell _ _ _ _ (by show b ≠ w.heap.size + 1; omega)).trans (Below.heap_setCell _ _ _ _ (by show b ≠ w.heap.size + 1; omega))
    · have hsub := T.sub_pos (f := f) q
      have HSUB := Lib.hid hsub
      have CL := Lib.hid (clone_any t.args hlen n₀ a c w2 (by have := HS2.out; omega) (HA.out.below (HB2.out.mono hn)))
      clear hsub hok
      go_enter Tryz.func107, Tryz.ntmps107
      go_wp2_with fail
      refine CL.out.mono ?_
      rintro e w3 ⟨a2, c2, rfl, ⟨hn1, hn2, hnr⟩, hb3⟩
      have hB3 : Below (w.heap.size + 2) w2 w3 := by rw [← HS2.out]; exact hb3
      clear c0 c1 r0 r1 rf0 rf1 hw2'
      unfold maxLen at hn2
      rcases hnr with hnil | ⟨g, cur, rfl, hg, hgb, hgs, hrow⟩
      · have hl0 : t.args.length = 0 := by rw [hnil]; rfl
        have HNIL := Lib.hid hnil
        obtain ⟨c0, c1, r0, r1, rf0, rf1⟩ := L2.out w3 hB3
        have HB3 := Lib.hid (HB2.out.trans (hb3.mono HB2.out.size))
        clear hnil hb3 hB3
        rw [hl0]
        go_wp2
        go_loopw [21] (fun i wr => i = .int .i64 0 ∧ wr = w3) (fun _ _ => 0)
        case atStart => exact ⟨rfl, rfl⟩
        case round =>
          obtain ⟨rfl, rfl⟩ := hrel
          go_wp2
          refine bodyPost_ret (v := tm t.head a2 0 c2) (by simp [results, Tryz.results107, go_sem, r0, r1]) rfl ?_
          rw [HSUB.out, HNIL.out]
          exact ⟨a2, c2, rfl, HWF.out, ⟨by simp [T.args], by unfold maxLen; exact hn2, .inl rfl⟩, (HB3.out.setCell (p := ⟨w.heap.size + 1, 0, none⟩) (by simp) _).setCell (p := ⟨w.heap.size + 1, 1, none⟩) (by simp) _⟩
      · obtain ⟨os, hos, hoc, _⟩ := rowVals_of t.args 0 ((isRowp_lt _).2 hrow)
        obtain ⟨sp, hsp⟩ := row_split hgb hoc
        have hg2 : w.heap.size + 2 ≤ g := by have := HS2.out; omega
        have HST := Lib.hid (show RbX n₀ t.args (t.args.map (T.sub f)) w w3 g c2 (.int .i64 ((0 : Nat) : Int)) w3 from ⟨0, [], os, sp, cur, Nat.zero_le _, rfl, hgb, hsp, trivial, hos, Below.refl _ _⟩)
        have HB3 := Lib.hid hB3
        have HS3 := Lib.hid (show w.heap.size + 2 ≤ w3.heap.size from by have := hb3.size; have := HS2.out; omega)
        clear hos hoc hsp hgb hrow hb3 hB3 CL hgs hg
        go_wp2
        go_loopw [21] (fun i wr => RbX n₀ t.args (t.args.map (T.sub f)) w w3 g c2 i wr) (fun i _ => t.args.length - (intOf i).toNat)
        case atStart => exact HST.out
        case round =>
          obtain ⟨k, vs, os, sp, cur, hk, rfl, hI⟩ := hrel
          have HI := Lib.hid hI
          have hz : w.heap.size + 2 ≤ wr.heap.size := by have := hI.below.size; have := HS3.out; omega
          have hBw : Below (w.heap.size + 2) w2 wr := HB3.out.trans hI.below
          have hw : Below w.heap.size w wr := HB2.out.trans (hBw.mono (by omega))
          have hvl := hI.new.length
          rw [List.length_take, List.length_map, Nat.min_eq_left hk] at hvl
          have hgw : g < wr.heap.size := (Array.getElem?_eq_some_iff.1 hI.blk).1
          by_cases hlt : k < t.args.length
          · obtain ⟨s, hs⟩ : ∃ s, t.args[k]? = some s := ⟨_, List.getElem?_eq_getElem hlt⟩
            have hold := hI.old
            rw [List.drop_eq_getElem_cons hlt, (List.getElem?_eq_some_iff.1 hs).2] at hold
            obtain ⟨os', a', c', rfl, hsw, hA'⟩ : ∃ os' a' c', os = .int .i64 s.head :: .slice a' s.args.length c' :: os' ∧ (Lit.int .i64 s.head).wf = true ∧ IsArgs n₀ wr s.args a' c' := by
              match os, hold with
              | h0 :: s0 :: os', ⟨q1, q2, ⟨a', c', q3, q4⟩, _⟩ => exact ⟨os', a', c', by rw [q2, q3], q1, isArgsp_lt.1 q4⟩
            have g0 : wr.cell? ⟨g, k * 2, none⟩ = some (.int .i64 s.head) := cell_of_split hI.blk hI.cells (by rw [List.getElem?_append_right (by omega), show k * 2 - vs.length = 0 from by omega]; rfl)
            have g1 : wr.cell? ⟨g, k * 2 + 1, none⟩ = some (.slice a' s.args.length c') := cell_of_split hI.blk hI.cells (by rw [List.getElem?_append_right (by omega), show k * 2 + 1 - vs.length = 1 from by omega]; rfl)
            have f0 : wr.frozen? ⟨g, k * 2, none⟩ = false := by simp [World.frozen?, hI.blk]
            have f1 : wr.frozen? ⟨g, k * 2 + 1, none⟩ = false := by simp [World.frozen?, hI.blk]
            obtain ⟨w4, hw4⟩ : ∃ w4, wr.alloc (tmCells s.head a' s.args.length c') = w4 := ⟨_, rfl⟩
            have hb4 : Below wr.heap.size wr w4 := by rw [← hw4]; exact (Below.refl _ _).alloc (Nat.le_refl _) _
            have hz4 : w4.heap.size = wr.heap.size + 1 := by rw [← hw4]; simp
            have hsN : s.size ≤ N := by have := T.size_lt_of_mem hs; have := HS.out; omega
            have hsb : s.size ≤ 1000000000000 := by have := T.size_lt_of_mem hs; have := HS.out; omega
            have hw4' : Below w.heap.size w w4 := hw.trans (hb4.mono (by omega))
            have CC := Lib.hid (IH.out s hsN hsb (good_arg HGD.out hs) n₀ a' c' w4 (by omega) hsw (hA'.below (hb4.mono (by omega))) (fun W v hW h0 h1 => HC.out W v (hw4'.trans (hW.mono hw4'.size)) h0 h1))
            have d0 : w4.cell? ⟨wr.heap.size, 0, none⟩ = some (.int .i64 s.head) := by rw [← hw4]; simp [go_sem]
            have d1 : w4.cell? ⟨wr.heap.size, 1, none⟩ = some (.slice a' s.args.length c') := by rw [← hw4]; simp [go_sem]
            have G5 := Lib.hid (show ∀ W, Below w4.heap.size w4 W → W.cell? ⟨g, k * 2, none⟩ = some (.int .i64 s.head) ∧ W.cell? ⟨g, k * 2 + 1, none⟩ = some (.slice a' s.args.length c') ∧ W.frozen? ⟨g, k * 2, none⟩ = false ∧ W.frozen? ⟨g, k * 2 + 1, none⟩ = false from fun W hW => by
              have h := hb4.trans (hW.mono hb4.size)
              exact ⟨(h.cell (p := ⟨g, k * 2, none⟩) hgw).trans g0, (h.cell (p := ⟨g, k * 2 + 1, none⟩) hgw).trans g1, (h.frozen (p := ⟨g, k * 2, none⟩) hgw).trans f0, (h.frozen (p := ⟨g, k * 2 + 1, none⟩) hgw).trans f1⟩)
            have HSS := Lib.hid hs
            have HW4 := Lib.hid hw4
            have HZ4 := Lib.hid hz4
            have hk0 : (0 : Int) ≤ (k : Int) := Int.natCast_nonneg _
            have hk1 : (k : Int) < (t.args.length : Int) := by omega
            clear hI hold hsw hA' hb4 hz4 hw4' hBw hw f0 f1 HST hs hvl
            go_wp2_with fail
            refine CC.out.mono ?_
            rintro e w5 ⟨a5, c5, rfl, hw5, hI5, hb5⟩
            clear g0 g1 d0 d1 hw4
            obtain ⟨g0, g1, f0, f1⟩ := G5.out w5 hb5
            have HW5 := Lib.hid hw5
            have HI5 := Lib.hid hI5
            have HB5 := Lib.hid hb5
            have hg5 : g < w5.heap.size := by have := hb5.size; have := HZ4.out; omega
            clear hw5 hI5 hb5
            go_wp2
            go_roundw
            case rel =>
              have hx : (t.args.map (T.sub f))[k]? = some (s.sub f) := by rw [List.getElem?_map, HSS.out]; rfl
              have hb5 := HB5.out
              have hI5 := HI5.out
              rw [← HW4.out] at hb5 hI5
              obtain ⟨cur', hI'⟩ := rb_step (ob := tmCells s.head a' s.args.length c') hn hg2 HI.out HSS.out hx hz HW5.out hb5 hI5
              exact ⟨k + 1, _, _, _, cur', by omega, by go_num, hI'⟩
            case measure => simp [intOf]; omega
          · obtain rfl : k = t.args.length := by omega
            obtain ⟨c0, c1, r0, r1, rf0, rf1⟩ := L2.out wr hBw
            have hnew := hI.new
            rw [← List.length_map (f := T.sub f), List.take_length] at hnew
            have hrow : IsRowp (fun b => w.heap.size + 2 ≤ b ∧ b < wr.heap.size) wr (t.args.map (T.sub f)) g 0 := RowVals.isRowp (hnew.keep (fun _ _ => rfl) (fun b hb => ⟨hb.1, hb.2.1⟩)) (fun j u hj => by
              rw [Nat.zero_add]
              exact cell_of_split hI.blk hI.cells (by rw [List.getElem?_append_left (List.getElem?_eq_some_iff.1 hj).1]; exact hj))
            have HROW := Lib.hid hrow
            have HW := Lib.hid hw
            clear hI hBw hw hnew hrow hvl HST
            go_wp2
            refine bodyPost_ret (v := tm t.head (some ⟨g, 0, none⟩) t.args.length c2) (by simp [results, Tryz.results107, go_sem, r0, r1]) rfl ?_
            rw [HSUB.out]
            have hA : IsArgsp (fun b => w.heap.size + 2 ≤ b ∧ b < wr.heap.size) wr (t.args.map (T.sub f)) (some ⟨g, 0, none⟩) c2 := ⟨by simpa using hn1, by unfold maxLen; exact hn2, .inr ⟨g, 0, rfl, ⟨hg2, hgw⟩, HROW.out⟩⟩
            refine ⟨some ⟨g, 0, none⟩, c2, by simp [T.head, T.args], HWF.out, hA.keep (fun b hb => ?_) (fun b hb => ⟨by have := hb.1; omega, by simpa using hb.2⟩), (HW.out.setCell (p := ⟨w.heap.size + 1, 0, none⟩) (by simp) _).setCell (p := ⟨w.heap.size + 1, 1, none⟩) (by simp) _⟩
            have h := hb.1
            exact (Below.heap_setCell _ _ _ _ (by show b ≠ w.heap.size + 1; omega)).trans (Below.heap_setCell _ _ _ _ (by show b ≠ w.heap.size + 1; omega))

end Go.Proofs.YtbdabdjpgmnejaaGreat

/- Contract of the reference's shift. -/
namespace Go.Proofs.YtbdabdjpgmnejaaGreat
set_option linter.unusedVariables false
set_option linter.unusedSimpArgs false
open Go.RowKit

set_option maxRecDepth 100000 in
set_option maxHeartbeats 4000000 in
theorem refShift0_any (y_ : Int) (hy0 : 0 ≤ y_) (hy1 : y_ ≤ 255) : ∀ (N : Nat) (t : T), t.size ≤ N → t.size ≤ 1000000000000 → bad (T.subs 1 t) = false → ∀ (n₀ : Nat) (a : Option Addr) (c : Nat) (w : World), n₀ ≤ w.heap.size → (Lit.int .i64 t.head).wf = true → IsArgs n₀ w t.args a c → 
    Calls Tryz.prog 68 #[tm t.head a t.args.length c, .int .i64 y_] w (RPutPost (t.sub (fun v => vt (v + y_))) n₀ w) := by
  intro N
  induction N with
  | zero => intro t ht; have := T.size_pos t; omega
  | succ N ih =>
    intro t ht hbig hgd n₀ a c w hn hwf hA 
    have IH := Lib.hid ih
    have HWF := Lib.hid hwf
    have hsz := T.size_eq t
    have hlz := T.sizes_ge_length t.args
    have hlc : t.args.length ≤ c ∧ c ≤ maxLen := ⟨hA.1, hA.2.1⟩
    unfold maxLen at hlc
    obtain ⟨hl1, hl2⟩ := hlc
    obtain ⟨hw1, hw2⟩ := wf_low hwf
    have HS := Lib.hid hsz
    have hlen : t.args.length ≤ 1000000000000 := by omega
    have HA := Lib.hid hA
    have HGD := Lib.hid hgd
    have hok := good_head hgd
    clear ih hwf hA hsz hlz hgd
    obtain ⟨w2, hw2'⟩ : ∃ w2, (w.alloc (tmCells t.head a t.args.length c)).alloc (tmCells 0 none 0 0) = w2 := ⟨_, rfl⟩
    have hB2 : Below w.heap.size w w2 := by rw [← hw2']; exact ((Below.refl _ w).alloc (Nat.le_refl _) _).alloc (by simp) _
    have hs2 : w2.heap.size = w.heap.size + 2 := by rw [← hw2']; simp
    have L2 := Lib.hid (show ∀ W, Below (w.heap.size + 2) w2 W → W.cell? ⟨w.heap.size, 0, none⟩ = some (.int .i64 t.head) ∧ W.cell? ⟨w.heap.size, 1, none⟩ = some (.slice a t.args.length c) ∧ W.cell? ⟨w.heap.size + 1, 0, none⟩ = some (.int .i64 0) ∧ W.cell? ⟨w.heap.size + 1, 1, none⟩ = some (.slice none 0 0) ∧ W.frozen? ⟨w.heap.size + 1, 0, none⟩ = false ∧ W.frozen? ⟨w.heap.size + 1, 1, none⟩ = false from fun W hW =>
      ⟨(hW.cell (p := ⟨w.heap.size, 0, none⟩) (by simp)).trans (by rw [← hw2']; simp [go_sem]), (hW.cell (p := ⟨w.heap.size, 1, none⟩) (by simp)).trans (by rw [← hw2']; simp [go_sem]), (hW.cell (p := ⟨w.heap.size + 1, 0, none⟩) (by simp)).trans (by rw [← hw2']; simp [go_sem]), (hW.cell (p := ⟨w.heap.size + 1, 1, none⟩) (by simp)).trans (by rw [← hw2']; simp [go_sem]), (hW.frozen (p := ⟨w.heap.size + 1, 0, none⟩) (by simp)).trans (by rw [← hw2']; simp [go_sem]), (hW.frozen (p := ⟨w.heap.size + 1, 1, none⟩) (by simp)).trans (by rw [← hw2']; simp [go_sem])⟩)
    have HB2 := Lib.hid hB2
    have HS2 := Lib.hid hs2
    clear hB2 hs2
    obtain ⟨c0, c1, r0, r1, rf0, rf1⟩ := L2.out w2 (Below.refl _ _)
    by_cases q : t.head < 0
    · have hsub := T.sub_neg (f := (fun v => vt (v + y_))) q
      have hv : -256 ≤ t.head := by
        simp only [okB, if_pos q, Bool.and_eq_true, decide_eq_true_iff] at hok
        omega
      have hx : vt (-1 - t.head + y_) = .node (t.head - y_) [] := by simp only [vt]; congr 1; omega
      go_enter Tryz.func68, Tryz.ntmps68
      go_wp2
      refine bodyPost_ret (v := tm (t.head - y_) none 0 0) (by simp [results, Tryz.results68, go_sem, r0, r1]) rfl ?_
      first | rw [hsub, hx] | rw [hx] | skip
      exact ⟨none, 0, rfl, WalkArith.wf_i64 ⟨by show -9223372036854775808 ≤ t.head - y_; omega, by show t.head - y_ ≤ 9223372036854775807; omega⟩, ⟨by simp [T.args], by simp [maxLen], .inl rfl⟩, (HB2.out.setCell (p := ⟨w.heap.size + 1, 0, none⟩) (by simp) _).setCell (p := ⟨w.heap.size + 1, 1, none⟩) (by simp) _⟩
    · have HSUB := Lib.hid (T.sub_pos (f := (fun v => vt (v + y_))) q)
      obtain ⟨i0, hi, hz0, hz1, hz2⟩ := info_parts infoTerm
      go_enter Tryz.func68, Tryz.ntmps68
      go_wp2
      obtain ⟨w3, hw3⟩ : ∃ w3, w2.alloc (tmCells t.head none 0 0) = w3 := ⟨_, rfl⟩
      have hB3 : Below w.heap.size w w3 := by rw [← hw3]; exact HB2.out.alloc HB2.out.size _
      have hs3 : w3.heap.size = w.heap.size + 3 := by rw [← hw3]; have := HS2.out; simp; omega
      have hb23 : Below (w.heap.size + 2) w2 w3 := by rw [← hw3]; exact (Below.refl _ _).alloc (by have := HS2.out; omega) _
      have hout : w3.heap[w.heap.size + 2]? = some (.cells #[.int .i64 t.head, .slice none 0 0] 34 (0, 0)) := by
        rw [← hw3, ← HS2.out]
        exact heap_alloc_new w2 (tmCells t.head none 0 0)
      have HB3 := Lib.hid hB3
      have HS3 := Lib.hid hs3
      have HOUT := Lib.hid hout
      have H23 := Lib.hid hb23
      have hsz2 := HS2.out
      rw [hw3, hsz2]
      obtain ⟨ts', hts⟩ : ∃ ts', t.args.map (T.sub (fun v => vt (v + y_))) = ts' := ⟨_, rfl⟩
      have hll : ts'.length = t.args.length := by rw [← hts]; simp
      have HTS := Lib.hid (show ∀ (k : Nat) (x : T), t.args[k]? = some x → ts'[k]? = some (x.sub (fun v => vt (v + y_))) from fun k x h => by rw [← hts, List.getElem?_map, h]; rfl)
      have HTE := Lib.hid hts
      clear hw3 hB3 hs3 hout hb23 hts hw2' c0 c1 r0 r1 rf0 rf1 hsz2
      go_loopw [6] (fun i wr => SubI t.head ts' n₀ w w3 i wr) (fun i _ => t.args.length - (intOf i).toNat)
      case atStart => exact ⟨0, _, [], Nat.zero_le _, rfl, HOUT.out, World.ownsRow_nil _ _ _ _, trivial, Below.refl _ _⟩
      case round =>
        obtain ⟨k, v, xs, hk, rfl, hout, hown, hrv, hB⟩ := hrel
        rw [hll] at hk
        have hz : w.heap.size + 3 ≤ wr.heap.size := by have := hB.size; have := HS3.out; omega
        have hw : Below w.heap.size w wr := HB3.out.trans (hB.mono (by omega))
        have h2w : Below (w.heap.size + 2) w2 wr := H23.out.trans hB
        obtain ⟨c0, c1, r0, r1, rf0, rf1⟩ := L2.out wr h2w
        have ho0 : wr.cell? ⟨w.heap.size + 2, 0, none⟩ = some (.int .i64 t.head) := by simp [World.cell?, hout]
        have ho1 : wr.cell? ⟨w.heap.size + 2, 1, none⟩ = some v := by simp [World.cell?, hout]
        have hf1 : wr.frozen? ⟨w.heap.size + 2, 1, none⟩ = false := by simp [World.frozen?, hout]
        have HO := Lib.hid hown
        have HR := Lib.hid hrv
        have HW := Lib.hid hw
        have HBL := Lib.hid hB
        have HOUT' := Lib.hid hout
        clear hown hrv hw hB hout HOUT h2w
        by_cases hlt : k < t.args.length
        · obtain ⟨b, o, s_, a', c', rfl, hbn, hs, hswf, hc1, hc2, hA'⟩ := (HA.out.below (HW.out.mono hn)).elem (i := k) hlt
          have hsN : s_.size ≤ N := by have := T.size_lt_of_mem hs; have := HS.out; omega
          have hsb : s_.size ≤ 1000000000000 := by have := T.size_lt_of_mem hs; have := HS.out; omega
          have hbw : b < wr.heap.size := by omega
          have HA' := Lib.hid hA'
          have HSW := Lib.hid hswf
          have hk0 : (0 : Int) ≤ (k : Int) := Int.natCast_nonneg _
          have hk1 : (k : Int) < (t.args.length : Int) := by omega
          have hoB : w.heap.size + 2 < wr.heap.size := by omega
          have hxB : w.heap.size < wr.heap.size := by omega
          have hk2 : k + 1 ≤ maxLen := by unfold maxLen; omega
          have cc : Calls Tryz.prog 68 #[tm s_.head a' s_.args.length c', .int .i64 y_] wr.drew (RPutPost (s_.sub (fun v => vt (v + y_))) n₀ wr.drew) := IH.out s_ hsN hsb (good_arg HGD.out hs) n₀ a' c' wr.drew (by show n₀ ≤ wr.heap.size; omega) HSW.out (HA'.out.below (Below.refl _ _).drew)
          obtain ⟨y, hy⟩ : ∃ y, s_.sub (fun v => vt (v + y_)) = y := ⟨_, rfl⟩
          have HTY := Lib.hid (hy ▸ HTS.out k s_ hs)
          rw [hy] at cc
          have CC := Lib.hid cc
          clear cc hs hA' hswf hy r0 r1 rf0 rf1
          go_wp2
          go_region_law (first
              | (refine step_append_lies _ (by rfl) _ _ _ (by rfl) (w.heap.size + 3) 34 i0 _ 2 32 Tryz.underlying32 hi hz0 hz1 hz2 rfl (by omega) v k xs (by rfl) ((ownsRow_later HO.out hB4w).alloc _)
                  ⟨w4.heap.size, 0, none⟩ 1 1 [.int .i64 y.head, .slice a2 y.args.length c2] (by rfl) (by rfl) (World.news_of_block (cs := #[.int .i64 y.head, .slice a2 y.args.length c2]) (t := 34) (fr := (0, 0)) (heap_alloc_new w4 _)) (by simp [Value.oneCell'])
                  (by omega) hk2 (by omega) (by simp; omega) (w4.heap.size + 1) (by simp) ?_; intro g5 cap5 w5 hown5 hgrow5 hat5 hlt5; have hB5x : Below (w.heap.size + 3) wr w5 := ((hB4w.mono hz).alloc hz4 _).grown hgrow5 (by simp; omega) (fun k hk => (HO.out.lt k hk).1); have ho5 := (hB5x.cell (p := ⟨w.heap.size + 2, 1, none⟩) (by simp)).trans ho1; have hf5 := (hB5x.frozen (p := ⟨w.heap.size + 2, 1, none⟩) (by simp)).trans hf1)
              | (go_simp; go_at_call 68; refine CC.out.mono ?_; rintro e w4 ⟨a2, c2, rfl, hwf4, hI4, hb4⟩; have hB4w : Below wr.heap.size wr w4 := ⟨hb4.os, hb4.tape, hb4.output, hb4.size, hb4.block⟩; have hz4 : w.heap.size + 3 ≤ w4.heap.size := Nat.le_trans hz hB4w.size; have ho4 := (hB4w.cell (p := ⟨w.heap.size + 2, 1, none⟩) (by simp; omega)).trans ho1; have ho4' : ∀ ob, (w4.alloc ob).cell? ⟨w.heap.size + 2, 1, none⟩ = some v := fun ob => (World.cell?_of_block (a := ⟨w.heap.size + 2, 1, none⟩) (Below.heap_alloc w4 ob _ (by simp; omega))).trans ho4))
          all_goals
            go_wp2
            go_roundw
            case rel => exact sub_step hn HTY.out hwf4 HOUT'.out HO.out HR.out HBL.out hz hI4 hB4w hown5 hgrow5 hat5
            case measure => simp [intOf]; omega
        · obtain rfl : k = t.args.length := by omega
          have hr := HR.out
          rw [← hll, List.take_length] at hr
          have ho := HO.out
          rw [← hll] at ho
          obtain ⟨a2, c2, rfl, hI⟩ := argsp_of_owns (ok' := fun b => b ≠ w.heap.size + 1 ∧ (b < n₀ ∨ w.heap.size ≤ b ∧ b < wr.heap.size)) ho hr (fun b hb => by
            rcases hb with hb | hb
            · exact ⟨by omega, .inl hb⟩
            · exact ⟨by have := hb.1; omega, .inr ⟨by have := hb.1; omega, hb.2.1⟩⟩) (fun g hg => by have := ho.lt g hg; exact ⟨by omega, .inr ⟨by omega, by omega⟩⟩)
          have HI := Lib.hid hI
          clear hI hr ho
          go_wp2
          refine bodyPost_ret (v := tm t.head a2 ts'.length c2) (by simp [results, Tryz.results68, go_sem, r0, r1, hll]) rfl ?_
          rw [HSUB.out, HTE.out]
          refine ⟨a2, c2, rfl, HWF.out, HI.out.keep (fun b hb => (Below.heap_setCell _ _ _ _ (by simpa using hb.1)).trans (Below.heap_setCell _ _ _ _ (by simpa using hb.1))) (fun b hb => by simpa using hb.2), ?_⟩
          exact (HW.out.setCell (p := ⟨w.heap.size + 1, 0, none⟩) (by simp) _).setCell (p := ⟨w.heap.size + 1, 1, none⟩) (by simp) _

end Go.Proofs.YtbdabdjpgmnejaaGreat

/- Sizes of terms put; plain. -/
namespace Go.Proofs.YtbdabdjpgmnejaaGreat
set_option linter.unusedVariables false
set_option linter.unusedSimpArgs false
open Go.RowKit

mutual
theorem T.sub_size {f : Int → T} {n : Nat} (hn : 1 ≤ n) (hf : ∀ v, (f v).size ≤ n) : (t : T) → (t.sub f).size ≤ t.size * n
  | .node h ts => by
    rw [T.sub]
    split
    · have := hf (-1 - h); simp only [T.size, Nat.add_mul]; have : 0 ≤ T.sizes ts * n := Nat.zero_le _; omega
    · have := T.subl_size hn hf ts; simp only [T.size, Nat.add_mul]; omega
theorem T.subl_size {f : Int → T} {n : Nat} (hn : 1 ≤ n) (hf : ∀ v, (f v).size ≤ n) : (ts : List T) → T.sizes (T.subl f ts) ≤ T.sizes ts * n
  | [] => by simp [T.subl, T.sizes]
  | t :: ts => by have h1 := T.sub_size hn hf t; have h2 := T.subl_size hn hf ts; simp only [T.subl, T.sizes, Nat.add_mul]; omega
end

mutual
theorem T.sub_sub (f g : Int → T) : (t : T) → (t.sub f).sub g = t.sub (fun v => (f v).sub g)
  | .node h ts => by
    by_cases q : h < 0
    · rw [T.sub, if_pos q, T.sub, if_pos q]
    · rw [T.sub, if_neg q, T.sub, if_neg q, T.sub, if_neg q, T.subl_subl f g ts]
theorem T.subl_subl (f g : Int → T) : (ts : List T) → T.subl g (T.subl f ts) = T.subl (fun v => (f v).sub g) ts
  | [] => rfl
  | t :: ts => by rw [T.subl, T.subl, T.subl, T.sub_sub f g t, T.subl_subl f g ts]
end

end Go.Proofs.YtbdabdjpgmnejaaGreat

/- Terms shifted; plain. -/
namespace Go.Proofs.YtbdabdjpgmnejaaGreat
set_option linter.unusedVariables false
set_option linter.unusedSimpArgs false
open Go.RowKit

def offS (y : Int) (v : Int) : T := vt (v + y)
def goodH (t : T) (y : Int) : Bool := decide (t.check = 0) && decide (0 ≤ y) && decide (y ≤ 255)
def shfT (t : T) (y : Int) : T := if goodH t y then endT (t.sub (offS y)) else Z0
def shfE (t : T) (y : Int) : Int := if goodH t y then (t.sub (offS y)).check else 1
theorem shf_size {t : T} (ht : t.size ≤ 400) (y : Int) : (t.sub (offS y)).size ≤ 1000000000000 :=
  Nat.le_trans (T.sub_size (n := 1) (by omega) (fun v => by simp [offS, vt, T.size, T.sizes]) t) (by omega)

theorem bl2 {w2 w7 w8 : World} {h : Int} {a : Option Addr} {n c : Nat} (hb : Below w2.heap.size w2 w7) (h8 : w8 = w7.alloc (tmCells h a n c)) : Below w2.heap.size w2 w8 := by
  subst h8
  exact hb.alloc hb.size _


end Go.Proofs.YtbdabdjpgmnejaaGreat

/- Contract of the reference's Shift. -/
namespace Go.Proofs.YtbdabdjpgmnejaaGreat
set_option linter.unusedVariables false
set_option linter.unusedSimpArgs false
open Go.RowKit

set_option maxRecDepth 100000 in
set_option maxHeartbeats 4000000 in
theorem refShiftF_any (t : T) (ht : t.size ≤ 1000000000000) (y_ : Int) (n₀ : Nat) (at_ : Option Addr) (ct : Nat) (w : World) (hn : n₀ ≤ w.heap.size) (htw : (Lit.int .i64 t.head).wf = true) (hA : IsArgs n₀ w t.args at_ ct) :
    Calls Tryz.prog 36 #[tm t.head at_ t.args.length ct, .int .i64 y_] w (TEPostF n₀ (shfT t y_) (shfE t y_) w) := by
  obtain ⟨w2, hw2⟩ : ∃ w2, (w.alloc (tmCells t.head at_ t.args.length ct)).alloc (tmCells 0 none 0 0) = w2 := ⟨_, rfl⟩
  have hB2 : Below w.heap.size w w2 := by rw [← hw2]; exact ((Below.refl _ w).alloc (Nat.le_refl _) _).alloc (by simp) _
  have hs2 : w2.heap.size = w.heap.size + 2 := by rw [← hw2]; simp
  have L2 := Lib.hid (show ∀ W, Below w2.heap.size w2 W → W.cell? ⟨w.heap.size, 0, none⟩ = some (.int .i64 t.head) ∧ W.cell? ⟨w.heap.size, 1, none⟩ = some (.slice at_ t.args.length ct) ∧ W.cell? ⟨w.heap.size + 1, 0, none⟩ = some (.int .i64 0) ∧ W.cell? ⟨w.heap.size + 1, 1, none⟩ = some (.slice none 0 0) ∧ W.frozen? ⟨w.heap.size + 1, 0, none⟩ = false ∧ W.frozen? ⟨w.heap.size + 1, 1, none⟩ = false from fun W hW =>
    ⟨(hW.cell (p := ⟨w.heap.size, 0, none⟩) (by simp; omega)).trans (by rw [← hw2]; simp [go_sem]), (hW.cell (p := ⟨w.heap.size, 1, none⟩) (by simp; omega)).trans (by rw [← hw2]; simp [go_sem]), (hW.cell (p := ⟨w.heap.size + 1, 0, none⟩) (by simp; omega)).trans (by rw [← hw2]; simp [go_sem]), (hW.cell (p := ⟨w.heap.size + 1, 1, none⟩) (by simp; omega)).trans (by rw [← hw2]; simp [go_sem]), (hW.frozen (p := ⟨w.heap.size + 1, 0, none⟩) (by simp; omega)).trans (by rw [← hw2]; simp [go_sem]), (hW.frozen (p := ⟨w.heap.size + 1, 1, none⟩) (by simp; omega)).trans (by rw [← hw2]; simp [go_sem])⟩)
  have LS := Lib.hid (show ∀ W, Below w2.heap.size w2 W → True ∧ IsArgs n₀ W t.args at_ ct ∧ Below w.heap.size w W ∧ n₀ ≤ W.heap.size from fun W hW => by
    have h := hB2.trans (hW.mono hB2.size)
    exact ⟨trivial, hA.below (h.mono hn), h, Nat.le_trans hn h.size⟩)
  have HTW := Lib.hid htw
  have HS2 := Lib.hid hs2
  clear hA hB2 hs2 htw
  obtain ⟨c0, c1, _, _, _, _⟩ := L2.out w2 (Below.refl _ _)
  go_enter Tryz.func36, Tryz.ntmps36
  go_wp2_with fail
  have ls := LS.out w2 (Below.refl _ _)
  refine (refRight_any t ht n₀ at_ ct w2 ls.2.2.2 ls.2.1).mono ?_
  clear ls hw2 c0 c1
  rintro e w4 ⟨rfl, hb4⟩
  have HB4 := Lib.hid hb4
  clear hb4
  by_cases q2 : t.check = 0
  · rw [decide_eq_true q2]
    by_cases qy0 : y_ < 0
    · have hga : goodH t y_ = false := by simp [goodH]; intros; omega
      have hT : shfT t y_ = Z0 := by unfold shfT; rw [hga]; rfl
      have hE : shfE t y_ = 1 := by unfold shfE; rw [hga]; rfl
      obtain ⟨_, _, s0, s1, sf0, sf1⟩ := L2.out w4 HB4.out
      have HF := Lib.hid (LS.out w4 HB4.out).2.2.1
      go_wp2
      refine bodyPost_ret (v := .tuple #[tm 0 none 0 0, .int .i64 1]) (by simp [results, Tryz.results36, go_sem, s0, s1]) rfl ?_
      first | rw [hT, hE] | skip
      exact ⟨none, 0, rfl, wf_z0, isArgsp_z _ _, (HF.out.setCell (p := ⟨w.heap.size + 1, 0, none⟩) (by simp) _).setCell (p := ⟨w.heap.size + 1, 1, none⟩) (by simp) _⟩
    by_cases qy1 : 255 < y_
    · have hga : goodH t y_ = false := by simp [goodH]; intros; omega
      have hT : shfT t y_ = Z0 := by unfold shfT; rw [hga]; rfl
      have hE : shfE t y_ = 1 := by unfold shfE; rw [hga]; rfl
      obtain ⟨_, _, s0, s1, sf0, sf1⟩ := L2.out w4 HB4.out
      have HF := Lib.hid (LS.out w4 HB4.out).2.2.1
      go_wp2
      refine bodyPost_ret (v := .tuple #[tm 0 none 0 0, .int .i64 1]) (by simp [results, Tryz.results36, go_sem, s0, s1]) rfl ?_
      first | rw [hT, hE] | skip
      exact ⟨none, 0, rfl, wf_z0, isArgsp_z _ _, (HF.out.setCell (p := ⟨w.heap.size + 1, 0, none⟩) (by simp) _).setCell (p := ⟨w.heap.size + 1, 1, none⟩) (by simp) _⟩
    have qz0 : 0 ≤ y_ := by omega
    have qz1 : y_ ≤ 255 := by omega
    have hga : goodH t y_ = true := by simp [goodH, q2]; omega
    have hT : shfT t y_ = endT (t.sub (offS y_)) := by unfold shfT; rw [if_pos hga]
    have hE : shfE t y_ = (t.sub (offS y_)).check := by unfold shfE; rw [if_pos hga]
    obtain ⟨hts, _, htg⟩ := check_ok q2
    have hxs := shf_size hts y_
    obtain ⟨c0, c1, _, _, _, _⟩ := L2.out w4 HB4.out
    go_wp2_with fail
    clear c0 c1
    have ls := LS.out w4 HB4.out
    refine (refShift0_any y_ qz0 qz1 t.size t (Nat.le_refl _) ht htg n₀ at_ ct w4 ls.2.2.2 HTW.out ls.2.1).mono ?_
    rw [show (fun v => vt (v + y_)) = offS y_ from rfl]
    clear ls
    generalize t.sub (offS y_) = x at hxs hT hE ⊢
    rintro e w5 ⟨a5, c5, rfl, hw5, hI5, hb5⟩
    have HI5 := Lib.hid hI5
    have HW5 := Lib.hid hw5
    have HB5 := Lib.hid (HB4.out.trans (hb5.mono HB4.out.size))
    have hn5 : n₀ ≤ w5.heap.size := Nat.le_trans (LS.out w4 HB4.out).2.2.2 hb5.size
    have hn4 : w.heap.size + 2 ≤ w4.heap.size := by have := HB4.out.size; have := HS2.out; omega
    clear hI5 hw5 hb5
    go_wp2_with fail
    refine (refEnd_any x hxs _ a5 c5 w5 (fun b h => by rcases h with h | h; omega; exact h.2) HW5.out HI5.out).mono ?_
    rintro e w7 ⟨a7, c7, rfl, hw7, hA7, hb7⟩
    obtain ⟨y, hy⟩ : ∃ y, endT x = y := ⟨_, rfl⟩
    rw [hy] at hw7 hA7 hT ⊢
    have HB7 := Lib.hid (HB5.out.trans (hb7.mono HB5.out.size))
    have hz7 := hb7.size
    obtain ⟨w8, hw8⟩ : ∃ w8, w7.alloc (tmCells y.head a7 y.args.length c7) = w8 := ⟨_, rfl⟩
    have hz8 : w8.heap.size = w7.heap.size + 1 := by rw [← hw8]; simp
    have d0 : w8.cell? ⟨w7.heap.size, 0, none⟩ = some (.int .i64 y.head) := by rw [← hw8]; simp [go_sem]
    have d1 : w8.cell? ⟨w7.heap.size, 1, none⟩ = some (.slice a7 y.args.length c7) := by rw [← hw8]; simp [go_sem]
    have HB8 := Lib.hid (bl2 HB7.out hw8.symm)
    have HA8 := Lib.hid (hA7.keep (ok' := fun b => (b < n₀ ∨ w.heap.size + 2 ≤ b) ∧ b < w8.heap.size) (w' := w8) (fun b hb => by rw [← hw8]; exact Below.heap_alloc _ _ _ (by rcases hb with h | h; omega; have := h.2; omega)) (fun b hb => by rcases hb with h | h; exact ⟨.inl h, by omega⟩; exact ⟨by have := h.1; omega, by have := h.2; omega⟩))
    obtain ⟨_, _, s0, s1, sf0, sf1⟩ := L2.out w8 HB8.out
    have HW7 := Lib.hid hw7
    have HF := Lib.hid (LS.out w8 HB8.out).2.2.1
    clear hA7 hb7 hw7
    go_wp2
    refine bodyPost_ret (v := .tuple #[tm y.head a7 y.args.length c7, .int .i64 x.check]) (by simp [results, Tryz.results36, go_sem, s0, s1]) rfl ?_
    first | rw [hT, hE] | rw [hE] | rw [hT] | skip
    exact ⟨a7, c7, rfl, HW7.out, (HA8.out.keep (ok' := fun b => (b < n₀ ∨ w.heap.size ≤ b) ∧ b < ((w8.setCell ⟨w.heap.size + 1, 0, none⟩ (.int .i64 y.head)).setCell ⟨w.heap.size + 1, 1, none⟩ (.slice a7 y.args.length c7)).heap.size) (fun b hb => (Below.heap_setCell _ _ _ _ (show b ≠ w.heap.size + 1 by have := hb.1; omega)).trans (Below.heap_setCell _ _ _ _ (show b ≠ w.heap.size + 1 by have := hb.1; omega))) (fun b hb => by have h1 := hb.1; have h2 := hb.2; simp; omega)), (HF.out.setCell (p := ⟨w.heap.size + 1, 0, none⟩) (by simp) _).setCell (p := ⟨w.heap.size + 1, 1, none⟩) (by simp) _⟩
  · rw [decide_eq_false q2]
    have hga : goodH t y_ = false := by simp [goodH, q2]
    have hT : shfT t y_ = Z0 := by unfold shfT; rw [hga]; rfl
    have hE : shfE t y_ = 1 := by unfold shfE; rw [hga]; rfl
    obtain ⟨_, _, s0, s1, sf0, sf1⟩ := L2.out w4 HB4.out
    have HF := Lib.hid (LS.out w4 HB4.out).2.2.1
    go_wp2
    refine bodyPost_ret (v := .tuple #[tm 0 none 0 0, .int .i64 1]) (by simp [results, Tryz.results36, go_sem, s0, s1]) rfl ?_
    first | rw [hT, hE] | skip
    exact ⟨none, 0, rfl, wf_z0, isArgsp_z _ _, (HF.out.setCell (p := ⟨w.heap.size + 1, 0, none⟩) (by simp) _).setCell (p := ⟨w.heap.size + 1, 1, none⟩) (by simp) _⟩

theorem refShift_any (t : T) (ht : t.size ≤ 1000000000000) (y_ : Int) (n₀ : Nat) (at_ : Option Addr) (ct : Nat) (w : World) (hn : n₀ ≤ w.heap.size) (htw : (Lit.int .i64 t.head).wf = true) (hA : IsArgs n₀ w t.args at_ ct) :
    Calls Tryz.prog 36 #[tm t.head at_ t.args.length ct, .int .i64 y_] w (TEPost (shfT t y_) (shfE t y_) w) :=
  (refShiftF_any t ht y_ n₀ at_ ct w hn htw hA).mono fun _ _ h => h.te

end Go.Proofs.YtbdabdjpgmnejaaGreat
