/- Kbo's scale in memory: what it holds; plain facts. -/
import Derived.Test.YtleohdddaadbeaaGreatQBg
namespace Go.Proofs.YtleohdddaadbeaaGreat
set_option linter.unusedVariables false
set_option linter.unusedSimpArgs false
open Go.RowKit Go.Maps

/-! ### What lies on the two sides -/
abbrev Sds := List Int × List Int
def wS (g : Sg) (S : Sds) : Int := sumA (wo g) S.1 - sumA (wo g) S.2
def cS (S : Sds) (v : Int) : Int := (S.1.count v : Nat) - (S.2.count v : Nat)
def pl (pos : Bool) (S : Sds) (L : List Int) : Sds := if pos then (S.1 ++ L, S.2) else (S.1, S.2 ++ L)
def sg (pos : Bool) : Int := if pos then 1 else -1
theorem pl_pl (pos : Bool) (S : Sds) (L L' : List Int) : pl pos (pl pos S L) L' = pl pos S (L ++ L') := by
  cases pos <;> simp [pl]
theorem pl_nil (pos : Bool) (S : Sds) : pl pos S [] = S := by cases pos <;> simp [pl]
theorem wS_pl (g : Sg) (pos : Bool) (S : Sds) (L : List Int) : wS g (pl pos S L) = wS g S + sg pos * sumA (wo g) L := by
  cases pos <;> simp [wS, pl, sg, sumA_append] <;> omega
theorem cS_pl (pos : Bool) (S : Sds) (L : List Int) (v : Int) : cS (pl pos S L) v = cS S v + sg pos * (L.count v : Nat) := by
  cases pos <;> simp [cS, pl, sg, List.count_append] <;> omega
theorem pl_mem {pos : Bool} {S : Sds} {L : List Int} {v : Int} : (v ∈ (pl pos S L).1 ∨ v ∈ (pl pos S L).2) ↔ ((v ∈ S.1 ∨ v ∈ S.2) ∨ v ∈ L) := by
  cases pos
  · simp only [pl, Bool.false_eq_true, if_false, List.mem_append]; rw [or_assoc]
  · simp only [pl, if_true, List.mem_append]; rw [or_assoc, or_assoc, or_comm (a := v ∈ L)]
def lenS (S : Sds) : Nat := S.1.length + S.2.length
theorem lenS_pl (pos : Bool) (S : Sds) (L : List Int) : lenS (pl pos S L) = lenS S + L.length := by
  cases pos <;> simp [lenS, pl] <;> omega
theorem cS_bound (S : Sds) (v : Int) : -(lenS S : Int) ≤ cS S v ∧ cS S v ≤ lenS S := by
  have h1 : S.1.count v ≤ S.1.length := List.count_le_length
  have h2 : S.2.count v ≤ S.2.length := List.count_le_length
  unfold cS lenS
  omega
theorem sumA_bound {f : Int → Int} {L : List Int} (h : ∀ x ∈ L, 0 ≤ f x ∧ f x ≤ 1000) : 0 ≤ sumA f L ∧ sumA f L ≤ 1000 * L.length := by
  have := sumN_bound (f := f) (left := fun _ => false) (L := L) h
  rwa [sumN_end (fun _ => rfl)] at this
theorem wS_bound {g : Sg} (hr : rightG g = true) {S : Sds} (h : ∀ v, v ∈ S.1 ∨ v ∈ S.2 → inS g v) : -(1000 * (lenS S : Int)) ≤ wS g S ∧ wS g S ≤ 1000 * (lenS S : Int) := by
  have h1 := sumA_bound (f := wo g) (L := S.1) (fun x hx => by have := wo_bound hr (h x (.inl hx)); omega)
  have h2 := sumA_bound (f := wo g) (L := S.2) (fun x hx => by have := wo_bound hr (h x (.inr hx)); omega)
  unfold wS lenS
  omega
theorem sg_cases (pos : Bool) : sg pos = 1 ∨ sg pos = -1 := by cases pos <;> simp [sg]

/-! ### The map of differences -/
def DifM (W : World) (M : Nat) (S : Sds) : Prop :=
  ∃ (D : DataW Unit) (n : Nat), n ≤ lenS S ∧ W.ownsMap Tryz.prog 3 (plainElem Tryz.prog 3) M n D ∧ (∀ v, hwf v → Maps.has D (.int .i64 v) = decide (v < 0 ∧ (v ∈ S.1 ∨ v ∈ S.2)) ∧ (v < 0 → (v ∈ S.1 ∨ v ∈ S.2) → ∀ z, D.atKey (.int .i64 v) z = .lit (.int .i64 (cS S v))))
theorem DifM.lt {W : World} {M : Nat} {S : Sds} (h : DifM W M S) : M < W.heap.size := by obtain ⟨D, n, _, h1, _⟩ := h; exact h1.lt
theorem DifM.kept {W W' : World} {M : Nat} {S : Sds} (h : DifM W M S) (hb : W'.heap[M]? = W.heap[M]?) : DifM W' M S := by
  obtain ⟨D, n, hn, ⟨es, clock, hm, r⟩, h2⟩ := h
  exact ⟨D, n, hn, ⟨es, clock, hb.trans hm, r⟩, h2⟩
theorem DifM.notCells {W : World} {M : Nat} {S : Sds} (h : DifM W M S) {cs : Array Value} {e : TypeId} {fz : Nat × Nat} : W.heap[M]? ≠ some (.cells cs e fz) := by
  obtain ⟨D, n, _, ⟨es, clock, hm, r⟩, h2⟩ := h
  rw [hm]; simp
theorem DifM.look {W : World} {M : Nat} {S : Sds} (h : DifM W M S) {v : Int} (hv : hwf v) (h0 : v < 0) :
    (Instr.lookup 76 (.map (some M)) (.int .i64 v) false).run Tryz.prog W = .ok (.int .i64 (cS S v)) W := by
  obtain ⟨D, n, _, h1, h3⟩ := h
  have hkey := keyOf_int_mk (P := Tryz.prog) (k := 3) Tryz.underlying3 hv.wf
  obtain ⟨q1, q2⟩ := h3 v hv
  obtain ⟨c, hrun, hat, _⟩ := h1.lookup_int keyHd Tryz.underlying76 Tryz.underlying3 (zeroHd _) hkey
  rw [hrun]
  by_cases hm : v ∈ S.1 ∨ v ∈ S.2
  · rw [q2 h0 hm] at hat
    simp at hat
    rw [hat]
  · rw [Maps.atKey_of_not_has (by rw [q1]; simp [hm])] at hat
    simp at hat
    rw [← hat]
    have : cS S v = 0 := by
      unfold cS
      rw [List.count_eq_zero.2 (fun e => hm (.inl e)), List.count_eq_zero.2 (fun e => hm (.inr e))]; rfl
    rw [this]
theorem DifM.put {W : World} {M : Nat} {S : Sds} (h : DifM W M S) {v : Int} (hv : hwf v) (h0 : v < 0) (pos : Bool) (hn : lenS S ≤ 1000000000000) :
    ∃ w', (Instr.mapUpdate 76 (.map (some M)) (.int .i64 v) (.int .i64 (cS S v + sg pos))).run Tryz.prog W = .ok () w' ∧ DifM w' M (pl pos S [v]) ∧ W.grownBy w' (some M) := by
  obtain ⟨D, n, hn', h1, h3⟩ := h
  have hkey := keyOf_int_mk (P := Tryz.prog) (k := 3) Tryz.underlying3 hv.wf
  have hcl := cS_bound S v
  have hsg := sg_cases pos
  have hwc : (Lit.int .i64 (cS S v + sg pos)).wf = true := WalkArith.wf_i64 ⟨by omega, by omega⟩
  obtain ⟨w', hrun, r1, r2⟩ := h1.update keyHd Tryz.underlying76 (by unfold maxLen; omega) hkey (plainElem_int (H := Unit) (P := Tryz.prog) Tryz.underlying3 hwc)
  have hM := h1.isMap
  refine ⟨w', hrun, ⟨_, _, by rw [lenS_pl]; simp only [List.length_cons, List.length_nil]; omega, r1, fun x hx => ?_⟩, r2⟩
  by_cases e : x = v
  · subst e
    refine ⟨by rw [Maps.has_put_same hM (show WideAt.IsKeyLit (.int .i64 x) from trivial)]; simp [pl_mem, h0], fun _ _ z => ?_⟩
    rw [Maps.atKey_put_same (k := .int .i64 x) hM (show WideAt.IsKeyLit (.int .i64 x) from trivial) _ z, cS_pl]
    simp
  · have hne : Lit.int .i64 x ≠ Lit.int .i64 v := by intro e'; injection e' with _ e'; exact e e'
    refine ⟨by rw [Maps.has_put_other hne, (h3 x hx).1]; simp [pl_mem, e], fun hx0 hm z => ?_⟩
    rw [Maps.atKey_put_other hne, (h3 x hx).2 hx0 (by simpa [pl_mem, e] using hm) z, cS_pl]
    simp [List.count_cons, show ¬ v = x from fun e' => e e'.symm]
/-- Symbols play no part in it. -/
theorem DifM.skip {W : World} {M : Nat} {S : Sds} (h : DifM W M S) {v : Int} (h0 : 0 ≤ v) (pos : Bool) : DifM W M (pl pos S [v]) := by
  obtain ⟨D, n, hn', h1, h3⟩ := h
  refine ⟨D, n, by rw [lenS_pl]; omega, h1, fun x hx => ?_⟩
  obtain ⟨q1, q2⟩ := h3 x hx
  constructor
  · rw [q1, Bool.eq_iff_iff, decide_eq_true_eq, decide_eq_true_eq, pl_mem]
    simp only [List.mem_singleton]
    constructor
    · rintro ⟨a, b⟩; exact ⟨a, .inl b⟩
    · rintro ⟨a, b | b⟩
      · exact ⟨a, b⟩
      · omega
  · intro hx0 hm z
    rw [q2 hx0 (by
      rcases pl_mem.1 hm with hm | hm
      · exact hm
      · have := List.mem_singleton.1 hm; omega) z, cS_pl]
    simp [List.count_cons, show ¬ v = x from by omega]
theorem DifM.made (w : World) : DifM (w.alloc (.map #[] 0)) w.heap.size ([], []) :=
  ⟨.map [], 0, Nat.le_refl _, World.ownsMap_made w Tryz.prog 3 (plainElem Tryz.prog 3), fun v _ => ⟨by simp; rfl, by simp⟩⟩

/-! ### The scale -/
structure Scl (W : World) (Bs M : Nat) (g : Sg) (ga : Option Addr) (gc : Nat) (S : Sds) : Prop where
  c0 : W.cell? ⟨Bs, 0, none⟩ = some (.slice ga g.length gc)
  c1 : W.cell? ⟨Bs, 1, none⟩ = some (.int .i64 (wS g S))
  c2 : W.cell? ⟨Bs, 2, none⟩ = some (.map (some M))
  fz : W.frozen? ⟨Bs, 1, none⟩ = false
  map : DifM W M S
  ok : ∀ h, h ∈ S.1 ∨ h ∈ S.2 → inS g h ∧ hwf h
/-- All but the scale stays. -/
structure Sfr (Bs M : Nat) (w w' : World) : Prop where
  os : w'.os = w.os
  tape : w'.tape = w.tape
  output : w'.output = w.output
  size : w.heap.size ≤ w'.heap.size
  block : ∀ k, k < w.heap.size → k ≠ Bs → k ≠ M → w'.heap[k]? = w.heap[k]?
theorem Sfr.refl (Bs M : Nat) (w : World) : Sfr Bs M w w := ⟨rfl, rfl, rfl, Nat.le_refl _, fun _ _ _ _ => rfl⟩
theorem Sfr.trans {Bs M : Nat} {a b c : World} (h : Sfr Bs M a b) (k : Sfr Bs M b c) : Sfr Bs M a c :=
  ⟨k.os.trans h.os, k.tape.trans h.tape, k.output.trans h.output, Nat.le_trans h.size k.size, fun i hi h1 h2 => (k.block i (Nat.lt_of_lt_of_le hi h.size) h1 h2).trans (h.block i hi h1 h2)⟩
theorem Sfr.of_below {Bs M : Nat} {w w' : World} (h : Below w.heap.size w w') : Sfr Bs M w w' := ⟨h.os, h.tape, h.output, h.size, fun k hk _ _ => h.block k hk⟩
theorem Sfr.below {Bs M : Nat} {w w' : World} (h : Sfr Bs M w w') {B : Nat} (h1 : B ≤ Bs) (h2 : B ≤ M) (hB : B ≤ w.heap.size) : Below B w w' := ⟨h.os, h.tape, h.output, h.size, fun k hk => h.block k (by omega) (by omega) (by omega)⟩
theorem Sfr.of_set (Bs M : Nat) (w : World) (o : Nat) (v : Value) : Sfr Bs M w (w.setCell ⟨Bs, o, none⟩ v) := ⟨rfl, rfl, rfl, by simp, fun k hk h1 _ => Below.heap_setCell _ _ _ _ (by simpa using h1)⟩
theorem Sfr.of_grown {Bs M : Nat} {w w' : World} (h : w.grownBy w' (some M)) : Sfr Bs M w w' := ⟨h.os, h.tape, h.output, h.size, fun k hk _ h2 => h.block k hk (fun e => h2 (Option.some.inj e))⟩
theorem Sfr.drew {Bs M : Nat} {w w' : World} (h : Sfr Bs M w w') : Sfr Bs M w w'.drew := ⟨h.os, h.tape, h.output, h.size, h.block⟩
theorem Sfr.drewN {Bs M : Nat} {w w' : World} (h : Sfr Bs M w w') (n : Nat) : Sfr Bs M w (w'.drewN n) := ⟨h.os, h.tape, h.output, h.size, h.block⟩
theorem Sfr.cell {Bs M : Nat} {w w' : World} (h : Sfr Bs M w w') {b o : Nat} (hb : b < w.heap.size) (h1 : b ≠ Bs) (h2 : b ≠ M) : w'.cell? ⟨b, o, none⟩ = w.cell? ⟨b, o, none⟩ := World.cell?_of_block (a := ⟨b, o, none⟩) (h.block b hb h1 h2)
theorem Sfr.frozen {Bs M : Nat} {w w' : World} (h : Sfr Bs M w w') {b o : Nat} (hb : b < w.heap.size) (h1 : b ≠ Bs) (h2 : b ≠ M) : w'.frozen? ⟨b, o, none⟩ = w.frozen? ⟨b, o, none⟩ := by
  simp only [World.frozen?, h.block b hb h1 h2]
section
variable {W W' : World} {Bs M : Nat} {g : Sg} {ga : Option Addr} {gc : Nat} {S : Sds}
theorem Scl.lt (h : Scl W Bs M g ga gc S) : Bs < W.heap.size := World.block_lt_of_cell? W ⟨Bs, 0, none⟩ h.c0
theorem Scl.ne (h : Scl W Bs M g ga gc S) : Bs ≠ M := by
  intro e
  have h1 := h.c0
  have h2 := h.map
  subst e
  unfold World.cell? at h1
  split at h1
  · rename_i cs e fz hh
    exact h2.notCells hh
  · cases h1
theorem Scl.kept (h : Scl W Bs M g ga gc S) (h1 : W'.heap[Bs]? = W.heap[Bs]?) (h2 : W'.heap[M]? = W.heap[M]?) : Scl W' Bs M g ga gc S :=
  ⟨(World.cell?_of_block (a := ⟨Bs, 0, none⟩) h1).trans h.c0, (World.cell?_of_block (a := ⟨Bs, 1, none⟩) h1).trans h.c1, (World.cell?_of_block (a := ⟨Bs, 2, none⟩) h1).trans h.c2, by
    have := h.fz
    simp only [World.frozen?, h1] at this ⊢
    exact this, h.map.kept h2, h.ok⟩
theorem Scl.later (h : Scl W Bs M g ga gc S) (hb : Below W.heap.size W W') : Scl W' Bs M g ga gc S := h.kept (hb.block _ h.lt) (hb.block _ h.map.lt)
/-- A symbol more on one side: its weight alone. -/
theorem Scl.sym (h : Scl W Bs M g ga gc S) {v : Int} (h0 : 0 ≤ v) (hv : inS g v) (hw : hwf v) (pos : Bool) : Scl (W.setCell ⟨Bs, 1, none⟩ (.int .i64 (wS g S + sg pos * wo g v))) Bs M g ga gc (pl pos S [v]) := by
  refine ⟨?_, ?_, ?_, ?_, ?_, ?_⟩
  · rw [World.cell?_setCell_other _ _ _ _ (by intro q; simp at q)]; exact h.c0
  · rw [World.cell?_setCell_same' _ _ _ (by rw [h.c1]; rfl), wS_pl]; simp [sumA]
  · rw [World.cell?_setCell_other _ _ _ _ (by intro q; simp at q)]; exact h.c2
  · rw [World.frozen?_setCell]; exact h.fz
  · exact (h.map.kept (Below.heap_setCell _ _ _ _ (by simpa using h.ne.symm))).skip h0 pos
  · intro x hx
    rcases pl_mem.1 hx with hx | hx
    · exact h.ok x hx
    · rw [List.mem_singleton.1 hx]; exact ⟨hv, hw⟩
/-- A variable more: its weight is 1; then its count. -/
theorem Scl.mid (h : Scl W Bs M g ga gc S) (x : Int) : (W.setCell ⟨Bs, 1, none⟩ (.int .i64 x)).cell? ⟨Bs, 0, none⟩ = some (.slice ga g.length gc) ∧ (W.setCell ⟨Bs, 1, none⟩ (.int .i64 x)).cell? ⟨Bs, 1, none⟩ = some (.int .i64 x) ∧ (W.setCell ⟨Bs, 1, none⟩ (.int .i64 x)).cell? ⟨Bs, 2, none⟩ = some (.map (some M)) ∧ (W.setCell ⟨Bs, 1, none⟩ (.int .i64 x)).frozen? ⟨Bs, 1, none⟩ = false ∧ DifM (W.setCell ⟨Bs, 1, none⟩ (.int .i64 x)) M S := by
  refine ⟨?_, ?_, ?_, ?_, ?_⟩
  · rw [World.cell?_setCell_other _ _ _ _ (by intro q; simp at q)]; exact h.c0
  · rw [World.cell?_setCell_same' _ _ _ (by rw [h.c1]; rfl)]
  · rw [World.cell?_setCell_other _ _ _ _ (by intro q; simp at q)]; exact h.c2
  · rw [World.frozen?_setCell]; exact h.fz
  · exact h.map.kept (Below.heap_setCell _ _ _ _ (by simpa using h.ne.symm))
theorem Scl.var (h : Scl W Bs M g ga gc S) {v : Int} (h0 : v < 0) (hw : hwf v) (pos : Bool) {W2 : World} (hB : W2.heap[Bs]? = (W.setCell ⟨Bs, 1, none⟩ (.int .i64 (wS g S + sg pos))).heap[Bs]?) (hm : DifM W2 M (pl pos S [v])) : Scl W2 Bs M g ga gc (pl pos S [v]) := by
  obtain ⟨q0, q1, q2, q3, _⟩ := h.mid (wS g S + sg pos)
  refine ⟨(World.cell?_of_block (a := ⟨Bs, 0, none⟩) hB).trans q0, ?_, (World.cell?_of_block (a := ⟨Bs, 2, none⟩) hB).trans q2, ?_, hm, ?_⟩
  · rw [World.cell?_of_block (a := ⟨Bs, 1, none⟩) hB, q1, wS_pl]
    simp [sumA, wo, h0]
  · simp only [World.frozen?, hB] at q3 ⊢
    exact q3
  · intro x hx
    rcases pl_mem.1 hx with hx | hx
    · exact h.ok x hx
    · rw [List.mem_singleton.1 hx]; exact ⟨.inl h0, hw⟩
end

end Go.Proofs.YtleohdddaadbeaaGreat
