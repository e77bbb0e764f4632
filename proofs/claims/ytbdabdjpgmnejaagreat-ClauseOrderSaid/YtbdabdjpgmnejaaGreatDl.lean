/- Contract of slices.Delete at literals: one of a row of one's own is taken away. -/
import Derived.Test.YtbdabdjpgmnejaaGreatIxl
import Derived.Laws.IdiomCopy
import Derived.Shelf.RegionOpenPlain
import Derived.Lib.SliceRun
namespace Go.Proofs.YtbdabdjpgmnejaaGreat
set_option linter.unusedVariables false
set_option linter.unusedSimpArgs false
open Go.RowKit

/-- Cells written one behind the other into cells. -/
def setN (c : Array Value) (o : Nat) : List Value → Array Value
  | [] => c
  | v :: r => setN (c.setIfInBounds o v) (o + 1) r
theorem setN_size : ∀ (vs : List Value) (c : Array Value) (o : Nat), (setN c o vs).size = c.size
  | [], _, _ => rfl
  | v :: r, c, o => by rw [setN, setN_size r]; simp
theorem setN_get : ∀ (vs : List Value) (c : Array Value) (o j : Nat), (setN c o vs).toList[j]? = if o ≤ j ∧ j < o + vs.length ∧ j < c.size then vs[j - o]? else c.toList[j]?
  | [], c, o, j => by rw [setN, if_neg (by simp; omega)]
  | v :: r, c, o, j => by
    rw [setN, setN_get r, Array.toList_setIfInBounds, List.getElem?_set, Array.size_setIfInBounds, List.length_cons]
    by_cases h1 : o + 1 ≤ j ∧ j < o + 1 + r.length ∧ j < c.size
    · rw [if_pos h1, if_pos (by omega), show j - o = (j - (o + 1)) + 1 from by omega, List.getElem?_cons_succ]
    · rw [if_neg h1]
      by_cases h2 : o = j
      · subst h2
        by_cases h3 : o < c.size
        · rw [if_pos rfl, if_pos (by simpa using h3), if_pos (by omega)]; simp
        · rw [if_pos rfl, if_neg (by simpa using h3), if_neg (by omega)]
          exact (List.getElem?_eq_none (by simpa using h3)).symm
      · rw [if_neg h2, if_neg (by omega)]
theorem heap_setN {b : Nat} {t : TypeId} {fr : Nat × Nat} : ∀ (vs : List Value) (o : Nat) (w : World) (c : Array Value), w.heap[b]? = some (.cells c t fr) → (w.setCells b o vs).heap[b]? = some (.cells (setN c o vs) t fr)
  | [], _, _, _, h => h
  | v :: r, o, w, c, h => heap_setN r (o + 1) _ _ (heap_setCell_same h v)
theorem grown_setN (b : Nat) : ∀ (vs : List Value) (o : Nat) (w : World), w.grownBy (w.setCells b o vs) (some b)
  | [], _, w => ⟨rfl, rfl, rfl, Nat.le_refl _, fun _ _ _ => rfl⟩
  | v :: r, o, w => by
    have h := grown_setN b r (o + 1) (w.setCell ⟨b, o, none⟩ v)
    exact ⟨h.os, h.tape, h.output, by simp, fun k hk hne => (h.block k (by simpa using hk) hne).trans (Below.heap_setCell _ _ _ _ (fun e => hne (by rw [e])))⟩
abbrev zLit : List Value := [.bool false, .int .i64 0, .slice none 0 0, .int .i64 0, .slice none 0 0]
theorem zeroLit (w : World) : (zeroValue 36).run Tryz.prog w = .ok (.agg zLit.toArray) w := by kernel_rfl
theorem run_clear_lit (w : World) (ty : TypeId) (b o c : Nat) (hc : ∀ j, j < 5 → (w.cell? ⟨b, o + j, none⟩).isSome = true) (hf : ∀ j, j < 5 → w.frozen? ⟨b, o + j, none⟩ = false) :
    (Builtin.clear_ #[23] ty #[.slice (some ⟨b, o, none⟩) 1 c]).run Tryz.prog w = .ok (.tuple #[]) (w.setCells b o zLit) := by
  have hzc : (Builtin.zeroCells (Value.agg zLit.toArray).cells 1).toList = zLit := by kernel_rfl
  have hst := run_storeCells_cells (P := Tryz.prog) b o zLit 0 w (by simpa using hc) (by simpa using hf) (by intro v hv; simp at hv; rcases hv with rfl | rfl | rfl | rfl | rfl <;> rfl)
  simp only [Nat.add_zero] at hst
  simp [Builtin.clear_, run_underlying Tryz.underlying23, zeroLit, hzc, hst]
theorem lcells_drop (P : List LV) : ∀ k, lcells (P.drop k) = (lcells P).drop (k * 5) := by
  induction P with
  | nil => intro k; simp [lcells]
  | cons x P ih =>
    intro k
    cases k with
    | zero => simp
    | succ k =>
      rw [List.drop_succ_cons, ih k]
      show _ = (LV.cells x ++ lcells P).drop ((k + 1) * 5)
      rw [show (k + 1) * 5 = (LV.cells x).length + k * 5 from by simp; omega, List.drop_append, Nat.add_sub_cancel_left, List.drop_of_length_le (l := x.cells) (by omega), List.nil_append]
theorem lcells_take (P : List LV) (k : Nat) : lcells (P.take k) = (lcells P).take (k * 5) := by
  by_cases h : k ≤ P.length
  · have e : lcells P = lcells (P.take k) ++ lcells (P.drop k) := by rw [← lcells_append, List.take_append_drop]
    have hl : (lcells (P.take k)).length = k * 5 := by rw [lcells_length, List.length_take]; omega
    rw [e, ← hl, List.take_left]
  · rw [List.take_of_length_le (by omega), List.take_of_length_le (by rw [lcells_length]; omega)]

/-- The cells behind it. -/
theorem del_cells {P : List LV} {k : Nat} (hk : k < P.length) {cur : Array Value} {cap : Nat} (hn : P.length ≤ cap) (hs : cur.size = cap * 5) (ht : cur.toList.take (P.length * 5) = lcells P) :
    (setN (setN cur (k * 5) (lcells (P.drop (k + 1)))) ((P.length - 1) * 5) zLit).toList.take ((P.length - 1) * 5) = lcells (P.eraseIdx k) := by
  have hc : ∀ j, j < P.length * 5 → cur.toList[j]? = (lcells P)[j]? := fun j hj => by rw [← ht, List.getElem?_take, if_pos hj]
  have hdl : (lcells (P.drop (k + 1))).length = (P.length - (k + 1)) * 5 := by rw [lcells_length, List.length_drop]
  apply List.ext_getElem?
  intro j
  rw [List.eraseIdx_eq_take_drop_succ, lcells_append]
  have htl : (lcells (P.take k)).length = k * 5 := by rw [lcells_length, List.length_take]; omega
  rw [List.getElem?_take]
  by_cases hj : j < (P.length - 1) * 5
  · rw [if_pos hj, setN_get, if_neg (by omega), setN_get, hdl]
    by_cases h1 : k * 5 ≤ j
    · rw [if_pos (by omega), List.getElem?_append_right (by omega), htl]
    · rw [if_neg (by omega), List.getElem?_append_left (by omega), lcells_take, List.getElem?_take, if_pos (by omega), hc j (by omega)]
  · rw [if_neg hj]
    symm
    exact List.getElem?_eq_none (by rw [List.length_append, htl, hdl]; omega)

def DlPost (ok : Nat → Prop) (n₁ : Nat) (v : Value) (P : List LV) (w : World) (e : Ending) (w' : World) : Prop := ∃ v', e = .returned v' ∧ OL ok n₁ v' P w' ∧ v'.ownBlock = v.ownBlock ∧ w.grownBy w' v.ownBlock

set_option maxRecDepth 1000000 in
set_option maxHeartbeats 4000000 in
theorem deleteL_any (P : List LV) (k : Nat) (hk : k < P.length) (hl : P.length ≤ 1000000) (ok : Nat → Prop) (n₁ : Nat) (v : Value) (w : World) (hO : OL ok n₁ v P w) (ho : ∀ b, ok b → b < w.heap.size ∧ v.ownBlock ≠ some b) :
    Calls Tryz.prog 95 #[v, .int .i64 (k : Int), .int .i64 ((k : Int) + 1)] w (DlPost ok n₁ v (P.eraseIdx k) w) := by
  obtain ⟨⟨h1, h2⟩, hel⟩ := hO
  rcases h2 with ⟨_, h0⟩ | ⟨g, cap, cur, rfl, hg1, hg, hn, hcm, hcs, htk⟩
  · omega
  unfold maxLen at hcm
  obtain ⟨i0, hi0, hz0, hz1, hz2⟩ := info_parts infoLit
  obtain ⟨news, hnews⟩ : ∃ news, news = lcells (P.drop (k + 1)) := ⟨_, rfl⟩
  have hlen : news.length = (P.length - (k + 1)) * 5 := by rw [hnews, lcells_length, List.length_drop]
  have hgz : g < w.heap.size := (Array.getElem?_eq_some_iff.1 hg).1
  have hcell : ∀ j, j < cap * 5 → w.cell? ⟨g, j, none⟩ = cur.toList[j]? := fun j hj => by
    simp [World.cell?, hg]
  have hsome : ∀ j, j < cap * 5 → (w.cell? ⟨g, j, none⟩).isSome = true := fun j hj => by
    rw [hcell j hj, List.getElem?_eq_getElem (by simp; omega)]; rfl
  have hfz : ∀ j, w.frozen? ⟨g, j, none⟩ = false := fun j => by simp [World.frozen?, hg]
  have hin : ∀ j u, news[j]? = some u → w.cell? ⟨g, (k + 1) * 5 + j, none⟩ = some u := fun j u hu => by
    have hjl := (List.getElem?_eq_some_iff.1 hu).1
    rw [hcell _ (by omega)]
    rw [hnews, lcells_drop, List.getElem?_drop, ← htk, List.getElem?_take, if_pos (by omega)] at hu
    exact hu
  obtain ⟨A, hA, hsrc⟩ : ∃ A : Addr, (if cap = k + 1 then (some (⟨g, 0, none⟩ : Addr)) else some ⟨g, (k + 1) * 5, none⟩) = some A ∧ RowKit.Hid (∀ t u, news[t]? = some u → w.drew.cell? (A.add t) = some u) := by
    by_cases h : cap = k + 1
    · refine ⟨⟨g, 0, none⟩, by simp [h], Lib.hid fun t u hu => ?_⟩
      have h0 : news.length = 0 := by rw [hlen]; omega
      rw [List.length_eq_zero_iff.1 h0] at hu
      simp at hu
    · refine ⟨⟨g, (k + 1) * 5, none⟩, by simp [h], Lib.hid fun t u hu => ?_⟩
      rw [addr_add]
      exact hin t u hu
  have s1 := Lib.hid (show news.length = (P.length - (k + 1)) * 5 from hlen)
  have s2 := Lib.hid (show ∀ u ∈ news, u.oneCell' = true from by rw [hnews]; exact lcells_one _)
  have s3 := Lib.hid (show ∀ t, t < news.length → (w.drew.cell? ⟨g, 0 + k * 5 + t, none⟩).isSome = true ∧ w.drew.frozen? ⟨g, 0 + k * 5 + t, none⟩ = false from fun t ht => ⟨hsome _ (by omega), hfz _⟩)
  obtain ⟨W1, hW1⟩ : ∃ W1, W1 = w.drew.setCells g (0 + k * 5) news := ⟨_, rfl⟩
  have hg1' : W1.heap[g]? = some (.cells (setN cur (k * 5) news) 36 (0, 0)) := by
    rw [hW1, Nat.zero_add]
    exact heap_setN news (k * 5) w.drew cur hg
  have hm1 : k + (P.length - (k + 1)) = P.length - 1 := by omega
  have hcl0 : ∀ ty c', (Builtin.clear_ #[23] ty #[.slice (some ⟨g, (P.length - 1) * 5, none⟩) 1 c']).run Tryz.prog W1 = .ok (.tuple #[]) (W1.setCells g ((P.length - 1) * 5) zLit) := fun ty c' =>
    run_clear_lit W1 ty g _ _ (fun j hj => by
      have : W1.cell? ⟨g, (P.length - 1) * 5 + j, none⟩ = (setN cur (k * 5) news).toList[(P.length - 1) * 5 + j]? := by simp [World.cell?, hg1']
      rw [this, List.getElem?_eq_getElem (by simp [setN_size]; omega)]; rfl) (fun j hj => by simp [World.frozen?, hg1'])
  have hcl : ∀ ty, (Builtin.clear_ #[23] ty #[.slice (some ⟨g, (k + (P.length - (k + 1))) * 5, none⟩) (P.length - (k + (P.length - (k + 1)))) (cap - (k + (P.length - (k + 1))))]).run Tryz.prog W1 = .ok (.tuple #[]) (W1.setCells g ((P.length - 1) * 5) zLit) := fun ty => by
    rw [hm1, show P.length - (P.length - 1) = 1 from by omega]
    exact hcl0 ty _
  have hfin : DlPost ok n₁ (.slice (some ⟨g, 0, none⟩) P.length cap) (P.eraseIdx k) w (.returned (.slice (some ⟨g, 0, none⟩) (k + (P.length - (k + 1))) cap)) (W1.setCells g ((P.length - 1) * 5) zLit) := by
    have hgr1 : w.grownBy W1 (some g) := by
      rw [hW1]
      have h := grown_setN g news (0 + k * 5) w.drew
      exact ⟨h.os, h.tape, h.output, h.size, h.block⟩
    have hgr2 := grown_setN g zLit ((P.length - 1) * 5) W1
    have hgr : w.grownBy (W1.setCells g ((P.length - 1) * 5) zLit) (some g) := ⟨hgr2.os.trans hgr1.os, hgr2.tape.trans hgr1.tape, hgr2.output.trans hgr1.output, Nat.le_trans hgr1.size hgr2.size, fun b hb hne => (hgr2.block b (Nat.lt_of_lt_of_le hb hgr1.size) hne).trans (hgr1.block b hb hne)⟩
    have hle : (P.eraseIdx k).length = P.length - 1 := by rw [List.length_eraseIdx, if_pos hk]
    refine ⟨_, rfl, ⟨⟨by rw [lcells_length], .inr ⟨g, cap, _, by rw [hle, hm1], hg1, heap_setN zLit _ _ _ hg1', by omega, by unfold maxLen; omega, by rw [setN_size, setN_size, hcs], ?_⟩⟩, fun x hx => ?_⟩, rfl, hgr⟩
    · rw [hle, hnews]
      exact del_cells hk hn hcs htk
    · have hx' : x ∈ P := (List.eraseIdx_sublist P k).subset hx
      exact (hel x hx').keep (fun b hb => hgr.block b (ho b hb).1 (fun e => (ho b hb).2 (by simpa [Value.ownBlock] using e.symm))) (fun _ x => x)
  have HFIN := Lib.hid hfin
  have hW := Lib.hid hW1
  have hk1 : (k : Int) + 1 ≤ (P.length : Int) := by omega
  have hk2 : (k : Int) + 1 ≤ (cap : Int) := by omega
  have hk3 : (P.length : Int) ≤ (cap : Int) := by omega
  have hk0 : (0 : Int) ≤ (k : Int) + 1 := by omega
  have hmx : Tryz.prog.follows .mixedOrders = true := by kernel_rfl
  have hk4 : k ≤ cap := by omega
  have hk5 : k + 1 ≤ P.length := by omega
  have hk6 : k + 1 ≤ cap := by omega
  clear hcl0 hm1 hW1 hg1' hfin hin hsome hcell hfz hnews hlen hel h1 hg htk hcs ho
  go_enter Tryz.func95, Tryz.ntmps95
  go_wp2_with fail
  go_region_law_o (refine step_append_room rfl (.tmp 22) (.tmp 25) 23 rfl 36 i0 5 Tryz.underlying23 hi0 hz1 g 0 k cap (by simp [Act.eval, Act.put]) A (P.length - (k + 1)) (cap - (k + 1)) news (by simp [Act.eval, Act.put]) s1.out hsrc.out s2.out (by omega) s3.out ?_; rw [← hW.out])
  go_wp2
  go_ret
  exact HFIN.out

end Go.Proofs.YtbdabdjpgmnejaaGreat
