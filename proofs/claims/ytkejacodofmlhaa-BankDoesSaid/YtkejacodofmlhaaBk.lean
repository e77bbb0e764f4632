/- The bank's table in memory: its rows, and the map from rows to numbers. -/
import Derived.Test.YtkejacodofmlhaaMem
import Derived.DeepKeys5
import Derived.Deep.AppendLies
import Derived.Deep.RegionLaw
import Derived.BigRegion
namespace Go.Proofs.Ytkejacodofmlhaa
set_option linter.unusedVariables false
set_option linter.unusedSimpArgs false
open Go.RowKit Go.Maps

/-! ### Keys -/
def rowVals (r : List Int) : List Value := r.map (Value.int .i64)
def rowV (r : List Int) : Value := .agg (rowVals r).toArray
def rowKey (r : List Int) : Lit := .string (keyBytes (r.map (Lit.int .i64)))
/-- Ten numbers. -/
def RwOk (r : List Int) : Prop := r.length = 10 ∧ ∀ z ∈ r, Mm.wfi z

theorem ten {r : List Int} (h : r.length = 10) : ∃ z0 z1 z2 z3 z4 z5 z6 z7 z8 z9, r = [z0, z1, z2, z3, z4, z5, z6, z7, z8, z9] := by
  match r, h with
  | [z0, z1, z2, z3, z4, z5, z6, z7, z8, z9], _ => exact ⟨_, _, _, _, _, _, _, _, _, _, rfl⟩

theorem rowKeyed : Keyed Try.prog 109 := Keyed.of_law (deep_law_gate (by kernel_rfl) (by decide +kernel) (by decide +kernel) (by kernel_rfl) (by rw [Try.underlying109]))
theorem rowGate : Try.prog.keyType 109 = true := by kernel_rfl
theorem rowCells : Try.prog.cellsOf 109 = 10 := by kernel_rfl
theorem arrCells : Try.prog.cellsOf 107 = 8 := by kernel_rfl
theorem intCells : Try.prog.cellsOf 3 = 1 := by kernel_rfl
theorem typesSome : ∃ n, Try.prog.types.size = n + 2 := ⟨Try.prog.types.size - 2, by have : 2 ≤ Try.prog.types.size := by decide +kernel
                                                                                     omega⟩

theorem keyOf_row {r : List Int} (h : RwOk r) : keyOf Try.prog 109 (rowV r) = some (rowKey r) := by
  obtain ⟨hl, hw⟩ := h
  obtain ⟨z0, z1, z2, z3, z4, z5, z6, z7, z8, z9, rfl⟩ := ten hl
  have hz : ∀ z ∈ [z0, z1, z2, z3, z4, z5, z6, z7, z8, z9], (Lit.int .i64 z).wf = true := fun z hz => (hw z hz).wf
  simp only [List.mem_cons, List.not_mem_nil, or_false, forall_eq_or_imp, forall_eq] at hz
  obtain ⟨h0, h1, h2, h3, h4, h5, h6, h7, h8, h9⟩ := hz
  obtain ⟨n, hn⟩ := typesSome
  have hf : (rowV [z0, z1, z2, z3, z4, z5, z6, z7, z8, z9]).formed Try.prog 109 = true := by
    simp [rowV, rowVals, Value.formed, Try.underlying109, rowCells]
  have hk : Try.prog.keyLits (Try.prog.types.size + 1) 109 (rowV [z0, z1, z2, z3, z4, z5, z6, z7, z8, z9]).cells.toList = some ([z0, z1, z2, z3, z4, z5, z6, z7, z8, z9].map (Lit.int .i64)) := by
    rw [hn]
    simp [Program.keyLits, rowV, rowVals, Value.cells, Try.underlying109, Try.underlying107, Try.underlying3, rowCells, arrCells, intCells, List.range, List.range.loop, h0, h1, h2, h3, h4, h5, h6, h7, h8, h9]
  unfold keyOf
  rw [Try.underlying109, rowGate, hf, hk]
  rfl

/-! ### Rows and keys -/
theorem rowKey_inj {r x : List Int} (hr : RwOk r) (hx : RwOk x) (h : rowKey r = rowKey x) : r = x := by
  have h1 := keyOf_row hr
  have h2 := keyOf_row hx
  rw [h] at h1
  have h3 := rowKeyed.inj h1 h2
  simp only [rowV, Value.agg.injEq, rowVals] at h3
  have h4 : r.map (Value.int .i64) = x.map (Value.int .i64) := by simpa using h3
  exact List.map_inj_right (fun a b e => by injection e) |>.1 h4

theorem zeroInt6 (w : World) : (zeroValue 3).run Try.prog w = .ok (.int .i64 0) w := by kernel_rfl

/-! ### The map -/
def MapK (W : World) (M : Nat) (rs : List (List Int)) : Prop :=
  ∃ D : DataW Value, W.ownsMap Try.prog 109 Mm.held M rs.length D ∧ Maps.size D = rs.length ∧
    ∀ r, RwOk r → Maps.has D (rowKey r) = decide (r ∈ rs) ∧ (r ∈ rs → ∀ z, D.atKey (rowKey r) z = .held (.int .i64 (rs.idxOf r : Nat)))
theorem MapK.lt {W : World} {M : Nat} {rs : List (List Int)} (h : MapK W M rs) : M < W.heap.size := by
  obtain ⟨D, h1, _⟩ := h; exact h1.lt
theorem MapK.isMap {W : World} {M : Nat} {rs : List (List Int)} (h : MapK W M rs) : ∃ es c, W.heap[M]? = some (.map es c) := by
  obtain ⟨D, ⟨es, clock, hb, _⟩, _⟩ := h; exact ⟨es, clock, hb⟩
theorem MapK.kept {W W' : World} {M : Nat} {rs : List (List Int)} (h : MapK W M rs) (hb : W'.heap[M]? = W.heap[M]?) : MapK W' M rs := by
  obtain ⟨D, ⟨es, clock, hm, r⟩, h2⟩ := h
  exact ⟨D, ⟨es, clock, hb.trans hm, r⟩, h2⟩
theorem MapK.made (w : World) : MapK (w.alloc (.map #[] 0)) w.heap.size [] :=
  ⟨.map [], World.ownsMap_made w Try.prog 109 Mm.held, rfl, fun r _ => ⟨rfl, by simp⟩⟩
theorem MapK.look {W : World} {M : Nat} {rs : List (List Int)} (h : MapK W M rs) {r : List Int} (hr : RwOk r) :
    (Instr.lookup 73 (.map (some M)) (rowV r) true).run Try.prog W = .ok (.tuple #[if r ∈ rs then .int .i64 (rs.idxOf r : Nat) else .int .i64 0, .bool (decide (r ∈ rs))]) W := by
  obtain ⟨D, h1, _, h3⟩ := h
  obtain ⟨q1, q2⟩ := h3 r hr
  obtain ⟨u, ps, hrun, hu⟩ := h1.look_ok rowKeyed Try.underlying73 (zeroInt6 W) (zd := .held (.int .i64 0)) (zp := []) rfl (keyOf_row hr)
  rw [hrun, q1]
  by_cases hin : r ∈ rs
  · rw [q2 hin] at hu
    simp only [Mm.held, Option.some.injEq, Prod.mk.injEq, DataW.held.injEq] at hu
    rw [hu.1, if_pos hin]
  · rw [Maps.atKey_of_not_has (by rw [q1]; simpa using hin)] at hu
    simp only [Mm.held, Option.some.injEq, Prod.mk.injEq, DataW.held.injEq] at hu
    rw [hu.1, if_neg hin]
theorem MapK.put {W : World} {M : Nat} {rs : List (List Int)} (h : MapK W M rs) {r : List Int} (hr : RwOk r) (hn : r ∉ rs) (hl : rs.length ≤ 1000000000000) :
    ∃ w', (Instr.mapUpdate 73 (.map (some M)) (rowV r) (.int .i64 (rs.length : Nat))).run Try.prog W = .ok () w' ∧ MapK w' M (rs ++ [r]) ∧ W.grownBy w' (some M) := by
  obtain ⟨D, h1, h2, h3⟩ := h
  obtain ⟨w', hrun, r1, r2⟩ := h1.update rowKeyed Try.underlying73 (by unfold maxLen; omega) (keyOf_row hr) (val := .int .i64 (rs.length : Nat)) (d := .held (.int .i64 (rs.length : Nat))) (ps := []) rfl
  have hM := h1.isMap
  have hs : Maps.size (D.put (rowKey r) (.held (.int .i64 (rs.length : Nat)))) = rs.length + 1 := by
    rw [Maps.size_put (h1.tidy rowKeyed), (h3 r hr).1, h2]; simp [hn]
  have r3 := Mm.ownsMap_exact r1
  rw [hs] at r3
  refine ⟨w', hrun, ⟨_, by simpa using r3, by simpa using hs, fun x hx => ?_⟩, r2⟩
  by_cases e : x = r
  · subst e
    refine ⟨by rw [Maps.has_put_same hM (show WideAt.IsKeyLit (rowKey x) from trivial)]; simp, fun _ z => ?_⟩
    rw [Maps.atKey_put_same hM (show WideAt.IsKeyLit (rowKey x) from trivial), Mm.idx_new hn]
  · have hne : rowKey x ≠ rowKey r := fun e' => e (rowKey_inj hx hr e')
    refine ⟨by rw [Maps.has_put_other hne, (h3 x hx).1]; simp [e], fun hin z => ?_⟩
    have hin' : x ∈ rs := by simpa [e] using hin
    rw [Maps.atKey_put_other hne, (h3 x hx).2 hin', Mm.idx_old hin']

/-! ### The table -/
def Own3 (Tb : Nat) (sv : Value) (M i : Nat) : Prop := i = Tb ∨ sv.ownBlock = some i ∨ i = M
structure KStep (Tb : Nat) (M : Nat) (sv : Value) (w : World) (sv' : Value) (w' : World) : Prop where
  os : w'.os = w.os
  tape : w'.tape = w.tape
  output : w'.output = w.output
  size : w.heap.size ≤ w'.heap.size
  block : ∀ i, i < w.heap.size → ¬ Own3 Tb sv M i → w'.heap[i]? = w.heap[i]?
  own : ∀ i, i < w.heap.size → Own3 Tb sv' M i → Own3 Tb sv M i
theorem KStep.refl (Tb M : Nat) (sv : Value) (w : World) : KStep Tb M sv w sv w := ⟨rfl, rfl, rfl, Nat.le_refl _, fun _ _ _ => rfl, fun _ _ h => h⟩
theorem KStep.trans {Tb M : Nat} {sv sv' sv'' : Value} {w w' w'' : World} (h : KStep Tb M sv w sv' w') (k : KStep Tb M sv' w' sv'' w'') : KStep Tb M sv w sv'' w'' :=
  ⟨k.os.trans h.os, k.tape.trans h.tape, k.output.trans h.output, Nat.le_trans h.size k.size, fun i hi hn => (k.block i (Nat.lt_of_lt_of_le hi h.size) (fun e => hn (h.own i hi e))).trans (h.block i hi hn), fun i hi e => h.own i hi (k.own i (Nat.lt_of_lt_of_le hi h.size) e)⟩
theorem KStep.later {Tb M : Nat} {sv : Value} {w w' : World} (hb : Below w.heap.size w w') : KStep Tb M sv w sv w' := ⟨hb.os, hb.tape, hb.output, hb.size, fun i hi _ => hb.block i hi, fun _ _ h => h⟩
theorem KStep.below {Tb M : Nat} {sv sv' : Value} {w w' : World} (h : KStep Tb M sv w sv' w') {B : Nat} (hB : B ≤ w.heap.size) (ho : ∀ i, Own3 Tb sv M i → B ≤ i) : Below B w w' :=
  ⟨h.os, h.tape, h.output, h.size, fun i hi => h.block i (by omega) (fun e => by have := ho i e; omega)⟩

structure IsK (B Tb : Nat) (W : World) (sv : Value) (M : Nat) (rs : List (List Int)) : Prop where
  heap : W.heap[Tb]? = some (.cells #[sv, .map (some M)] 75 (0, 0))
  base : B ≤ Tb
  mb : B ≤ M
  rows : W.ownsRow B 109 10 sv rs.length (rs.flatMap rowVals)
  map : MapK W M rs
  ok : ∀ r ∈ rs, RwOk r
  few : rs.length ≤ 4096

section
variable {B Tb M : Nat} {W : World} {sv : Value} {rs : List (List Int)}
theorem IsK.lt (h : IsK B Tb W sv M rs) : Tb < W.heap.size := (Array.getElem?_eq_some_iff.1 h.heap).1
theorem IsK.sv_ne (h : IsK B Tb W sv M rs) : sv.ownBlock ≠ some Tb := fun e => by
  obtain ⟨_, _, cur, hc⟩ := Mm.rowBlock h.rows e
  rw [h.heap] at hc
  simp at hc
theorem IsK.m_ne (h : IsK B Tb W sv M rs) : M ≠ Tb := fun e => by
  obtain ⟨es, c, hc⟩ := h.map.isMap
  rw [e, h.heap] at hc
  cases hc
theorem IsK.svm_ne (h : IsK B Tb W sv M rs) : sv.ownBlock ≠ some M := fun e => by
  obtain ⟨_, _, cur, hc⟩ := Mm.rowBlock h.rows e
  obtain ⟨es, c, hc'⟩ := h.map.isMap
  rw [hc] at hc'; cases hc'
theorem IsK.own_ge (h : IsK B Tb W sv M rs) {i : Nat} (hi : Own3 Tb sv M i) : B ≤ i := by
  rcases hi with rfl | hi | rfl
  · exact h.base
  · exact (Mm.rowBlock h.rows hi).1
  · exact h.mb
theorem IsK.own_lt (h : IsK B Tb W sv M rs) {i : Nat} (hi : Own3 Tb sv M i) : i < W.heap.size := by
  rcases hi with rfl | hi | rfl
  · exact h.lt
  · exact (Mm.rowBlock h.rows hi).2.1
  · exact h.map.lt
theorem IsK.kept (h : IsK B Tb W sv M rs) {W' : World} (hk : ∀ i, Own3 Tb sv M i → W'.heap[i]? = W.heap[i]?) : IsK B Tb W' sv M rs :=
  ⟨(hk Tb (.inl rfl)).trans h.heap, h.base, h.mb, Mm.ownsRow_kept h.rows (fun b hb => hk b (.inr (.inl hb))), h.map.kept (hk M (.inr (.inr rfl))), h.ok, h.few⟩
theorem IsK.later (h : IsK B Tb W sv M rs) {W' : World} (hb : Below W.heap.size W W') : IsK B Tb W' sv M rs := h.kept (fun i hi => hb.block i (h.own_lt hi))
end

/-- A row is added, or found. -/
def addR (rs : List (List Int)) (r : List Int) : List (List Int) × Option Nat :=
  if r ∈ rs then (rs, some (rs.idxOf r)) else if 4096 ≤ rs.length then (rs, none) else (rs ++ [r], some rs.length)
def numR (o : Option Nat) : Value := .tuple #[.int .i64 ((o.getD 0 : Nat) : Int), .int .i64 (if o.isSome then 0 else 9)]
def KPost (B Tb M : Nat) (sv : Value) (p : List (List Int) × Option Nat) (w : World) (e : Ending) (w' : World) : Prop :=
  e = .returned (numR p.2) ∧ ∃ sv', IsK B Tb w' sv' M p.1 ∧ KStep Tb M sv w sv' w'

theorem add_step {B Tb M : Nat} {w w3 w5 : World} {sv : Value} {rs : List (List Int)} {r : List Int} {ob : Obj} {g5 cap5 : Nat} (hG : IsK B Tb w sv M rs) (hr : RwOk r) (hfew : rs.length < 4096) (hg3 : w.grownBy w3 (some M)) (hM3 : MapK w3 M (rs ++ [r]))
    (hgrow : (w3.drew.alloc ob).grownBy w5 sv.ownBlock) (hown5 : w5.ownsRow B 109 10 (.slice (some ⟨g5, 0, none⟩) (rs.length + 1) cap5) (rs.length + 1) (rs.flatMap rowVals ++ rowVals r)) (hat : sv.ownBlock = some g5 ∨ g5 = w3.heap.size + 1) :
    IsK B Tb (w5.setCell ⟨Tb, 0, none⟩ (.slice (some ⟨g5, 0, none⟩) (rs.length + 1) cap5)) (.slice (some ⟨g5, 0, none⟩) (rs.length + 1) cap5) M (rs ++ [r]) ∧
      KStep Tb M sv w (.slice (some ⟨g5, 0, none⟩) (rs.length + 1) cap5) (w5.setCell ⟨Tb, 0, none⟩ (.slice (some ⟨g5, 0, none⟩) (rs.length + 1) cap5)) := by
  have hgl := hG.lt
  have hsg := hG.sv_ne
  have hz3 := hg3.size
  have hsz : w3.heap.size + 1 ≤ w5.heap.size := by have := hgrow.size; simpa using this
  have hk3 : ∀ i, i < w3.heap.size → sv.ownBlock ≠ some i → w5.heap[i]? = w3.heap[i]? := fun i hi hs => (hgrow.block i (by simp; omega) (fun e => hs e.symm)).trans (Below.heap_alloc w3.drew ob i hi)
  have hk0 : ∀ i, i < w.heap.size → sv.ownBlock ≠ some i → i ≠ M → w5.heap[i]? = w.heap[i]? := fun i hi hs hm => (hk3 i (by omega) hs).trans (hg3.block i hi (fun e => hm (Option.some.inj e)))
  have hg5 : g5 ≠ Tb := fun e => by
    subst e
    rcases hat with h | h
    · exact hsg h
    · omega
  have hMlt := hG.map.lt
  refine ⟨⟨?_, hG.base, hG.mb, ?_, ?_, ?_, by simp; omega⟩, ⟨hgrow.os.trans hg3.os, hgrow.tape.trans hg3.tape, hgrow.output.trans hg3.output, by simp; omega, fun i hi hn => ?_, fun i hi e => ?_⟩⟩
  · have h5 : w5.heap[Tb]? = some (.cells #[sv, .map (some M)] 75 (0, 0)) := (hk0 Tb hgl hsg (Ne.symm hG.m_ne)).trans hG.heap
    rw [heap_setCell_same h5]
    rfl
  · have := Mm.ownsRow_setCell_ne (b := Tb) (o := 0) hown5 (by simpa [Value.ownBlock] using hg5) (.slice (some ⟨g5, 0, none⟩) (rs.length + 1) cap5)
    simpa using this
  · refine hM3.kept ?_
    exact (Below.heap_setCell _ _ _ _ hG.m_ne).trans (hk3 M (by omega) hG.svm_ne)
  · intro x hx
    rcases List.mem_append.1 hx with hx | hx
    · exact hG.ok x hx
    · obtain rfl : x = r := by simpa using hx
      exact hr
  · exact (Below.heap_setCell _ _ _ _ (fun e => hn (.inl e))).trans (hk0 i hi (fun e => hn (.inr (.inl e))) (fun e => hn (.inr (.inr e))))
  · rcases e with e | e | e
    · exact .inl e
    · simp only [Value.ownBlock, Option.some.injEq] at e
      subst e
      rcases hat with h | h
      · exact .inr (.inl h)
      · omega
    · exact .inr (.inr e)

end Go.Proofs.Ytkejacodofmlhaa
