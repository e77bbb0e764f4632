/- QBk: joined of Ksc, Kpt, Kdc. -/
import Derived.Test.YtpncmdlbmnmahaaGreatQBe
import Derived.StillTailTactics
import Derived.IntWalk
import Derived.Test.YtpncmdlbmnmahaaGreatQBi
/- Kbo's scale in memory: what it holds; plain facts. -/
namespace Go.Proofs.YtpncmdlbmnmahaaGreat
set_option linter.unusedVariables false
set_option linter.unusedSimpArgs false
open Go.RowKit Go.Maps
/-! ### What lies on the two sides -/
abbrev Sds := List Int × List Int
def wS (g : Sg) (S : Sds) : Int := sumA (wo g) S.1 - sumA (wo g) S.2
def cS (S : Sds) (v : Int) : Int := (S.1.count v : Nat) - (S.2.count v : Nat)
def pl (pos : Bool) (S : Sds) (L : List Int) : Sds := if pos then (S.1 ++ L, S.2) else (S.1, S.2 ++ L)
def sg (pos : Bool) : Int := if pos then 1 else -1
theorem pl_pl (pos : Bool) (S : Sds) (L L' : List Int) : pl pos (pl pos S L) L' = pl pos S (L ++ L') := by
  cases pos <;> simp [pl]
theorem wS_pl (g : Sg) (pos : Bool) (S : Sds) (L : List Int) : wS g (pl pos S L) = wS g S + sg pos * sumA (wo g) L := by
  cases pos <;> simp [wS, pl, sg, sumA_append] <;> omega
theorem cS_pl (pos : Bool) (S : Sds) (L : List Int) (v : Int) : cS (pl pos S L) v = cS S v + sg pos * (L.count v : Nat) := by
  cases pos <;> simp [cS, pl, sg, List.count_append] <;> omega
theorem pl_mem {pos : Bool} {S : Sds} {L : List Int} {v : Int} : (v ∈ (pl pos S L).1 ∨ v ∈ (pl pos S L).2) ↔ ((v ∈ S.1 ∨ v ∈ S.2) ∨ v ∈ L) := by
  cases pos
  · simp only [pl, Bool.false_eq_true, if_false, List.mem_append]; rw [or_assoc]
  · simp only [pl, if_true, List.mem_append]; rw [or_assoc, or_assoc, or_comm (a := v ∈ L)]
def lenS (S : Sds) : Nat := S.1.length + S.2.length
theorem lenS_pl (pos : Bool) (S : Sds) (L : List Int) : lenS (pl pos S L) = lenS S + L.length := by
  cases pos <;> simp [lenS, pl] <;> omega
theorem cS_bound (S : Sds) (v : Int) : -(lenS S : Int) ≤ cS S v ∧ cS S v ≤ lenS S := by
  have h1 : S.1.count v ≤ S.1.length := List.count_le_length
  have h2 : S.2.count v ≤ S.2.length := List.count_le_length
  unfold cS lenS
  omega
theorem sumA_bound {f : Int → Int} {L : List Int} (h : ∀ x ∈ L, 0 ≤ f x ∧ f x ≤ 1000) : 0 ≤ sumA f L ∧ sumA f L ≤ 1000 * L.length := by
  have := sumN_bound (f := f) (left := fun _ => false) (L := L) h
  rwa [sumN_end (fun _ => rfl)] at this
theorem wS_bound {g : Sg} (hr : rightG g = true) {S : Sds} (h : ∀ v, v ∈ S.1 ∨ v ∈ S.2 → inS g v) : -(1000 * (lenS S : Int)) ≤ wS g S ∧ wS g S ≤ 1000 * (lenS S : Int) := by
  have h1 := sumA_bound (f := wo g) (L := S.1) (fun x hx => by have := wo_bound hr (h x (.inl hx)); omega)
  have h2 := sumA_bound (f := wo g) (L := S.2) (fun x hx => by have := wo_bound hr (h x (.inr hx)); omega)
  unfold wS lenS
  omega
theorem sg_cases (pos : Bool) : sg pos = 1 ∨ sg pos = -1 := by cases pos <;> simp [sg]
/-! ### The map of differences -/
def DifM (W : World) (M : Nat) (S : Sds) : Prop :=
  ∃ (D : DataW Unit) (n : Nat), n ≤ lenS S ∧ W.ownsMap Tryz.prog 3 (plainElem Tryz.prog 3) M n D ∧ (∀ v, hwf v → Maps.has D (.int .i64 v) = decide (v < 0 ∧ (v ∈ S.1 ∨ v ∈ S.2)) ∧ (v < 0 → (v ∈ S.1 ∨ v ∈ S.2) → ∀ z, D.atKey (.int .i64 v) z = .lit (.int .i64 (cS S v))))
theorem DifM.lt {W : World} {M : Nat} {S : Sds} (h : DifM W M S) : M < W.heap.size := by obtain ⟨D, n, _, h1, _⟩ := h; exact h1.lt
theorem DifM.kept {W W' : World} {M : Nat} {S : Sds} (h : DifM W M S) (hb : W'.heap[M]? = W.heap[M]?) : DifM W' M S := by
  obtain ⟨D, n, hn, ⟨es, clock, hm, r⟩, h2⟩ := h
  exact ⟨D, n, hn, ⟨es, clock, hb.trans hm, r⟩, h2⟩
theorem DifM.notCells {W : World} {M : Nat} {S : Sds} (h : DifM W M S) {cs : Array Value} {e : TypeId} {fz : Nat × Nat} : W.heap[M]? ≠ some (.cells cs e fz) := by
  obtain ⟨D, n, _, ⟨es, clock, hm, r⟩, h2⟩ := h
  rw [hm]; simp
theorem DifM.look {W : World} {M : Nat} {S : Sds} (h : DifM W M S) {v : Int} (hv : hwf v) (h0 : v < 0) :
    (Instr.lookup 132 (.map (some M)) (.int .i64 v) false).run Tryz.prog W = .ok (.int .i64 (cS S v)) W := by
  obtain ⟨D, n, _, h1, h3⟩ := h
  have hkey := keyOf_int_mk (P := Tryz.prog) (k := 3) Tryz.underlying3 hv.wf
  obtain ⟨q1, q2⟩ := h3 v hv
  obtain ⟨c, hrun, hat, _⟩ := h1.lookup_int keyHd Tryz.underlying132 Tryz.underlying3 (zeroHd _) hkey
  rw [hrun]
  by_cases hm : v ∈ S.1 ∨ v ∈ S.2
  · rw [q2 h0 hm] at hat
    simp at hat
    rw [hat]
  · rw [Maps.atKey_of_not_has (by rw [q1]; simp [hm])] at hat
    simp at hat
    rw [← hat]
    have : cS S v = 0 := by
      unfold cS
      rw [List.count_eq_zero.2 (fun e => hm (.inl e)), List.count_eq_zero.2 (fun e => hm (.inr e))]; rfl
    rw [this]
theorem DifM.put {W : World} {M : Nat} {S : Sds} (h : DifM W M S) {v : Int} (hv : hwf v) (h0 : v < 0) (pos : Bool) (hn : lenS S ≤ 1000000000000) :
    ∃ w', (Instr.mapUpdate 132 (.map (some M)) (.int .i64 v) (.int .i64 (cS S v + sg pos))).run Tryz.prog W = .ok () w' ∧ DifM w' M (pl pos S [v]) ∧ W.grownBy w' (some M) := by
  obtain ⟨D, n, hn', h1, h3⟩ := h
  have hkey := keyOf_int_mk (P := Tryz.prog) (k := 3) Tryz.underlying3 hv.wf
  have hcl := cS_bound S v
  have hsg := sg_cases pos
  have hwc : (Lit.int .i64 (cS S v + sg pos)).wf = true := WalkArith.wf_i64 ⟨by omega, by omega⟩
  obtain ⟨w', hrun, r1, r2⟩ := h1.update keyHd Tryz.underlying132 (by unfold maxLen; omega) hkey (plainElem_int (H := Unit) (P := Tryz.prog) Tryz.underlying3 hwc)
  have hM := h1.isMap
  refine ⟨w', hrun, ⟨_, _, by rw [lenS_pl]; simp only [List.length_cons, List.length_nil]; omega, r1, fun x hx => ?_⟩, r2⟩
  by_cases e : x = v
  · subst e
    refine ⟨by rw [Maps.has_put_same hM (show WideAt.IsKeyLit (.int .i64 x) from trivial)]; simp [pl_mem, h0], fun _ _ z => ?_⟩
    rw [Maps.atKey_put_same (k := .int .i64 x) hM (show WideAt.IsKeyLit (.int .i64 x) from trivial) _ z, cS_pl]
    simp
  · have hne : Lit.int .i64 x ≠ Lit.int .i64 v := by intro e'; injection e' with _ e'; exact e e'
    refine ⟨by rw [Maps.has_put_other hne, (h3 x hx).1]; simp [pl_mem, e], fun hx0 hm z => ?_⟩
    rw [Maps.atKey_put_other hne, (h3 x hx).2 hx0 (by simpa [pl_mem, e] using hm) z, cS_pl]
    simp [List.count_cons, show ¬ v = x from fun e' => e e'.symm]
/-- Symbols play no part in it. -/
theorem DifM.skip {W : World} {M : Nat} {S : Sds} (h : DifM W M S) {v : Int} (h0 : 0 ≤ v) (pos : Bool) : DifM W M (pl pos S [v]) := by
  obtain ⟨D, n, hn', h1, h3⟩ := h
  refine ⟨D, n, by rw [lenS_pl]; omega, h1, fun x hx => ?_⟩
  obtain ⟨q1, q2⟩ := h3 x hx
  constructor
  · rw [q1, Bool.eq_iff_iff, decide_eq_true_eq, decide_eq_true_eq, pl_mem]
    simp only [List.mem_singleton]
    constructor
    · rintro ⟨a, b⟩; exact ⟨a, .inl b⟩
    · rintro ⟨a, b | b⟩
      · exact ⟨a, b⟩
      · omega
  · intro hx0 hm z
    rw [q2 hx0 (by
      rcases pl_mem.1 hm with hm | hm
      · exact hm
      · have := List.mem_singleton.1 hm; omega) z, cS_pl]
    simp [List.count_cons, show ¬ v = x from by omega]
theorem DifM.made (w : World) : DifM (w.alloc (.map #[] 0)) w.heap.size ([], []) :=
  ⟨.map [], 0, Nat.le_refl _, World.ownsMap_made w Tryz.prog 3 (plainElem Tryz.prog 3), fun v _ => ⟨by simp; rfl, by simp⟩⟩
/-! ### The scale -/
structure Scl (W : World) (Bs M : Nat) (g : Sg) (ga : Option Addr) (gc : Nat) (S : Sds) : Prop where
  c0 : W.cell? ⟨Bs, 0, none⟩ = some (.slice ga g.length gc)
  c1 : W.cell? ⟨Bs, 1, none⟩ = some (.int .i64 (wS g S))
  c2 : W.cell? ⟨Bs, 2, none⟩ = some (.map (some M))
  fz : W.frozen? ⟨Bs, 1, none⟩ = false
  map : DifM W M S
  ok : ∀ h, h ∈ S.1 ∨ h ∈ S.2 → inS g h ∧ hwf h
/-- All but the scale stays. -/
structure Sfr (Bs M : Nat) (w w' : World) : Prop where
  os : w'.os = w.os
  tape : w'.tape = w.tape
  output : w'.output = w.output
  size : w.heap.size ≤ w'.heap.size
  block : ∀ k, k < w.heap.size → k ≠ Bs → k ≠ M → w'.heap[k]? = w.heap[k]?
theorem Sfr.refl (Bs M : Nat) (w : World) : Sfr Bs M w w := ⟨rfl, rfl, rfl, Nat.le_refl _, fun _ _ _ _ => rfl⟩
theorem Sfr.trans {Bs M : Nat} {a b c : World} (h : Sfr Bs M a b) (k : Sfr Bs M b c) : Sfr Bs M a c :=
  ⟨k.os.trans h.os, k.tape.trans h.tape, k.output.trans h.output, Nat.le_trans h.size k.size, fun i hi h1 h2 => (k.block i (Nat.lt_of_lt_of_le hi h.size) h1 h2).trans (h.block i hi h1 h2)⟩
theorem Sfr.of_below {Bs M : Nat} {w w' : World} (h : Below w.heap.size w w') : Sfr Bs M w w' := ⟨h.os, h.tape, h.output, h.size, fun k hk _ _ => h.block k hk⟩
theorem Sfr.below {Bs M : Nat} {w w' : World} (h : Sfr Bs M w w') {B : Nat} (h1 : B ≤ Bs) (h2 : B ≤ M) (hB : B ≤ w.heap.size) : Below B w w' := ⟨h.os, h.tape, h.output, h.size, fun k hk => h.block k (by omega) (by omega) (by omega)⟩
theorem Sfr.of_set (Bs M : Nat) (w : World) (o : Nat) (v : Value) : Sfr Bs M w (w.setCell ⟨Bs, o, none⟩ v) := ⟨rfl, rfl, rfl, by simp, fun k hk h1 _ => Below.heap_setCell _ _ _ _ (by simpa using h1)⟩
theorem Sfr.of_grown {Bs M : Nat} {w w' : World} (h : w.grownBy w' (some M)) : Sfr Bs M w w' := ⟨h.os, h.tape, h.output, h.size, fun k hk _ h2 => h.block k hk (fun e => h2 (Option.some.inj e))⟩
theorem Sfr.drew {Bs M : Nat} {w w' : World} (h : Sfr Bs M w w') : Sfr Bs M w w'.drew := ⟨h.os, h.tape, h.output, h.size, h.block⟩
theorem Sfr.drewN {Bs M : Nat} {w w' : World} (h : Sfr Bs M w w') (n : Nat) : Sfr Bs M w (w'.drewN n) := ⟨h.os, h.tape, h.output, h.size, h.block⟩
theorem Sfr.cell {Bs M : Nat} {w w' : World} (h : Sfr Bs M w w') {b o : Nat} (hb : b < w.heap.size) (h1 : b ≠ Bs) (h2 : b ≠ M) : w'.cell? ⟨b, o, none⟩ = w.cell? ⟨b, o, none⟩ := World.cell?_of_block (a := ⟨b, o, none⟩) (h.block b hb h1 h2)
theorem Sfr.frozen {Bs M : Nat} {w w' : World} (h : Sfr Bs M w w') {b o : Nat} (hb : b < w.heap.size) (h1 : b ≠ Bs) (h2 : b ≠ M) : w'.frozen? ⟨b, o, none⟩ = w.frozen? ⟨b, o, none⟩ := by
  simp only [World.frozen?, h.block b hb h1 h2]
section
variable {W W' : World} {Bs M : Nat} {g : Sg} {ga : Option Addr} {gc : Nat} {S : Sds}
theorem Scl.lt (h : Scl W Bs M g ga gc S) : Bs < W.heap.size := World.block_lt_of_cell? W ⟨Bs, 0, none⟩ h.c0
theorem Scl.ne (h : Scl W Bs M g ga gc S) : Bs ≠ M := by
  intro e
  have h1 := h.c0
  have h2 := h.map
  subst e
  unfold World.cell? at h1
  split at h1
  · rename_i cs e fz hh
    exact h2.notCells hh
  · cases h1
theorem Scl.kept (h : Scl W Bs M g ga gc S) (h1 : W'.heap[Bs]? = W.heap[Bs]?) (h2 : W'.heap[M]? = W.heap[M]?) : Scl W' Bs M g ga gc S :=
  ⟨(World.cell?_of_block (a := ⟨Bs, 0, none⟩) h1).trans h.c0, (World.cell?_of_block (a := ⟨Bs, 1, none⟩) h1).trans h.c1, (World.cell?_of_block (a := ⟨Bs, 2, none⟩) h1).trans h.c2, by
    have := h.fz
    simp only [World.frozen?, h1] at this ⊢
    exact this, h.map.kept h2, h.ok⟩
theorem Scl.later (h : Scl W Bs M g ga gc S) (hb : Below W.heap.size W W') : Scl W' Bs M g ga gc S := h.kept (hb.block _ h.lt) (hb.block _ h.map.lt)
/-- A symbol more on one side: its weight alone. -/
theorem Scl.sym (h : Scl W Bs M g ga gc S) {v : Int} (h0 : 0 ≤ v) (hv : inS g v) (hw : hwf v) (pos : Bool) : Scl (W.setCell ⟨Bs, 1, none⟩ (.int .i64 (wS g S + sg pos * wo g v))) Bs M g ga gc (pl pos S [v]) := by
  refine ⟨?_, ?_, ?_, ?_, ?_, ?_⟩
  · rw [World.cell?_setCell_other _ _ _ _ (by intro q; simp at q)]; exact h.c0
  · rw [World.cell?_setCell_same' _ _ _ (by rw [h.c1]; rfl), wS_pl]; simp [sumA]
  · rw [World.cell?_setCell_other _ _ _ _ (by intro q; simp at q)]; exact h.c2
  · rw [World.frozen?_setCell]; exact h.fz
  · exact (h.map.kept (Below.heap_setCell _ _ _ _ (by simpa using h.ne.symm))).skip h0 pos
  · intro x hx
    rcases pl_mem.1 hx with hx | hx
    · exact h.ok x hx
    · rw [List.mem_singleton.1 hx]; exact ⟨hv, hw⟩
/-- A variable more: its weight is 1; then its count. -/
theorem Scl.mid (h : Scl W Bs M g ga gc S) (x : Int) : (W.setCell ⟨Bs, 1, none⟩ (.int .i64 x)).cell? ⟨Bs, 0, none⟩ = some (.slice ga g.length gc) ∧ (W.setCell ⟨Bs, 1, none⟩ (.int .i64 x)).cell? ⟨Bs, 1, none⟩ = some (.int .i64 x) ∧ (W.setCell ⟨Bs, 1, none⟩ (.int .i64 x)).cell? ⟨Bs, 2, none⟩ = some (.map (some M)) ∧ (W.setCell ⟨Bs, 1, none⟩ (.int .i64 x)).frozen? ⟨Bs, 1, none⟩ = false ∧ DifM (W.setCell ⟨Bs, 1, none⟩ (.int .i64 x)) M S := by
  refine ⟨?_, ?_, ?_, ?_, ?_⟩
  · rw [World.cell?_setCell_other _ _ _ _ (by intro q; simp at q)]; exact h.c0
  · rw [World.cell?_setCell_same' _ _ _ (by rw [h.c1]; rfl)]
  · rw [World.cell?_setCell_other _ _ _ _ (by intro q; simp at q)]; exact h.c2
  · rw [World.frozen?_setCell]; exact h.fz
  · exact h.map.kept (Below.heap_setCell _ _ _ _ (by simpa using h.ne.symm))
theorem Scl.var (h : Scl W Bs M g ga gc S) {v : Int} (h0 : v < 0) (hw : hwf v) (pos : Bool) {W2 : World} (hB : W2.heap[Bs]? = (W.setCell ⟨Bs, 1, none⟩ (.int .i64 (wS g S + sg pos))).heap[Bs]?) (hm : DifM W2 M (pl pos S [v])) : Scl W2 Bs M g ga gc (pl pos S [v]) := by
  obtain ⟨q0, q1, q2, q3, _⟩ := h.mid (wS g S + sg pos)
  refine ⟨(World.cell?_of_block (a := ⟨Bs, 0, none⟩) hB).trans q0, ?_, (World.cell?_of_block (a := ⟨Bs, 2, none⟩) hB).trans q2, ?_, hm, ?_⟩
  · rw [World.cell?_of_block (a := ⟨Bs, 1, none⟩) hB, q1, wS_pl]
    simp [sumA, wo, h0]
  · simp only [World.frozen?, hB] at q3 ⊢
    exact q3
  · intro x hx
    rcases pl_mem.1 hx with hx | hx
    · exact h.ok x hx
    · rw [List.mem_singleton.1 hx]; exact ⟨.inl h0, hw⟩
end
end Go.Proofs.YtpncmdlbmnmahaaGreat

/- Kbo's scale: contract of put. -/
namespace Go.Proofs.YtpncmdlbmnmahaaGreat
set_option linter.unusedVariables false
set_option linter.unusedSimpArgs false
open Go.RowKit Go.Maps
def ScPost (Bs M : Nat) (g : Sg) (ga : Option Addr) (gc : Nat) (S : Sds) (w : World) (e : Ending) (w' : World) : Prop := e = .returned (.tuple #[]) ∧ Scl w' Bs M g ga gc S ∧ Sfr Bs M w w'
theorem hdsL_take' {ts : List T} {k : Nat} {s : T} (h : ts[k]? = some s) : T.hdsL (ts.take (k + 1)) = T.hdsL (ts.take k) ++ s.hds := by
  obtain ⟨hi, e⟩ := List.getElem?_eq_some_iff.1 h
  rw [List.take_succ_eq_append_getElem hi, e]
  have ap : ∀ (a b : List T), T.hdsL (a ++ b) = T.hdsL a ++ T.hdsL b := fun a b => by
    induction a with
    | nil => rfl
    | cons t a ih => simp [T.hdsL, ih]
  rw [ap]; simp [T.hdsL]
def PtI (Bs M : Nat) (g : Sg) (ga : Option Addr) (gc : Nat) (pos : Bool) (S : Sds) (t : T) (W2 : World) (i : Value) (wr : World) : Prop :=
  ∃ k : Nat, k ≤ t.args.length ∧ i = .int .i64 (k : Nat) ∧ Scl wr Bs M g ga gc (pl pos S (t.head :: T.hdsL (t.args.take k))) ∧ Sfr Bs M W2 wr
set_option maxRecDepth 100000 in
set_option maxHeartbeats 4000000 in
theorem scPut_any (g : Sg) (hr : rightG g = true) (pos : Bool) : ∀ (N : Nat) (t : T), t.size ≤ N → fitsT g t = true → bad (T.subs 1 t) = false → ∀ (S : Sds), lenS S + t.size ≤ 1000000 →
    ∀ (n₀ : Nat) (ga : Option Addr) (gc : Nat) (a : Option Addr) (c Bs M : Nat) (w : World), n₀ ≤ Bs → n₀ ≤ M → n₀ ≤ w.heap.size → IsSg n₀ w g ga gc → (Lit.int .i64 t.head).wf = true → IsArgs n₀ w t.args a c → Scl w Bs M g ga gc S →
    Calls Tryz.prog 148 #[.pointer (some ⟨Bs, 0, none⟩), tm t.head a t.args.length c, .int .i64 (sg pos)] w (ScPost Bs M g ga gc (pl pos S t.hds) w) := by
  intro N
  induction N with
  | zero => intro t ht; have := T.size_pos t; omega
  | succ N ih =>
    intro t ht hft hbd S hlen n₀ ga gc a c Bs M w hnB hnM hn hG hwf hA hS
    have IH := Lib.hid ih
    clear ih
    have hsg := sg_cases pos
    have hwb := wS_bound hr (fun v hv => (hS.ok v hv).1)
    have hcb := cS_bound S t.head
    have hsp := T.size_pos t
    have hBl := hS.lt
    have hMl := hS.map.lt
    have hne := hS.ne
    obtain ⟨W1, hW1⟩ : ∃ W1, w.alloc (tmCells t.head a t.args.length c) = W1 := ⟨_, rfl⟩
    have hF1 : Below w.heap.size w W1 := by rw [← hW1]; exact (Below.refl _ w).alloc (Nat.le_refl _) _
    have LT := show Later (fun X => Vc w.heap.size t.head a t.args.length c X) W1 from by rw [← hW1]; exact later_var w _ _ _ _
    obtain ⟨hv0, hv1⟩ := LT.now
    have hS1 := hS.later hF1
    have hb1 : w.heap.size < W1.heap.size := by rw [← hW1]; simp
    have hbB : w.heap.size ≠ Bs := by omega
    have hbM : w.heap.size ≠ M := by omega
    by_cases q1 : t.head < 0
    · have hargs := good_var hbd q1
      have hhd : t.hds = [t.head] := by rw [T.hds_eq, hargs]; rfl
      rw [hhd]
      have HS1 := Lib.hid hS1
      have HF1 := Lib.hid hF1
      have HV := Lib.hid (hwf_of hwf)
      have hmul : IntKind.i64.wrap (sg pos * 1) = sg pos := by rw [Int.mul_one]; exact IntWalk.i64_in _ (by omega)
      have hadd : IntKind.i64.wrap (wS g S + sg pos) = wS g S + sg pos := IntWalk.i64_in _ (by omega)
      have hadd2 : IntKind.i64.wrap (cS S t.head + sg pos) = cS S t.head + sg pos := IntWalk.i64_in _ (by omega)
      obtain ⟨c0, c1, c2, fz, dm, ok⟩ := hS1
      clear hA hG hS LT dm ok hF1 hwf hargs hhd
      go_enter Tryz.func148, Tryz.ntmps148
      go_wp2
      obtain ⟨m0, m1, m2, m3, m4⟩ := HS1.out.mid (wS g S + sg pos)
      have hv0' : (W1.setCell ⟨Bs, 1, none⟩ (.int .i64 (wS g S + sg pos))).cell? ⟨w.heap.size, 0, none⟩ = some (.int .i64 t.head) := by
        rw [World.cell?_setCell_other _ _ _ _ (by intro q; simp at q)]; exact hv0
      have HF2 := Lib.hid (show Sfr Bs M w (W1.setCell ⟨Bs, 1, none⟩ (.int .i64 (wS g S + sg pos))) from (Sfr.of_below HF1.out).trans (Sfr.of_set Bs M W1 1 _))
      have hMs : M < (W1.setCell ⟨Bs, 1, none⟩ (.int .i64 (wS g S + sg pos))).heap.size := m4.lt
      have hBs2 : Bs < (W1.setCell ⟨Bs, 1, none⟩ (.int .i64 (wS g S + sg pos))).heap.size := World.block_lt_of_cell? _ ⟨Bs, 0, none⟩ m0
      have HQ := Lib.hid q1
      have HD4 := Lib.hid m4
      have lk1 := m4.look HV.out q1
      have HE := Lib.hid (show (W1.setCell ⟨Bs, 1, none⟩ (.int .i64 (wS g S + sg pos))) = (W1.setCell ⟨Bs, 1, none⟩ (.int .i64 (wS g S + sg pos))) from rfl)
      clear m4 c0 c1 c2 fz hv0 hv1 hW1 hmul hadd
      generalize hW2 : W1.setCell ⟨Bs, 1, none⟩ (.int .i64 (wS g S + sg pos)) = W2 at *
      have HW2 := Lib.hid hW2
      clear hW2 HE
      have lk2 : (Instr.lookup 132 (.map (some M)) (.int .i64 t.head) false).run Tryz.prog W2.drew = .ok (.int .i64 (cS S t.head)) W2.drew := (HD4.out.kept (W' := W2.drew) rfl).look HV.out HQ.out
      go_still_tail 9, (by kernel_rfl)
      change wpList _ _ _ _ _ W2.drew
      obtain ⟨w3, hup, hM3, hg3⟩ := (HD4.out.kept (W' := W2.drew) rfl).put HV.out HQ.out pos (by omega)
      have HM3 := Lib.hid hM3
      have HG3 := Lib.hid hg3
      clear hM3 hg3
      go_wp2
      refine bodyPost_ret (v := .tuple #[]) (by simp [results, Tryz.results148, go_sem]) rfl ?_
      refine ⟨rfl, HS1.out.var HQ.out HV.out pos ?_ HM3.out, ?_⟩
      · rw [HW2.out]; exact HG3.out.block Bs hBs2 (fun e => hne (Option.some.inj e))
      · exact HF2.out.drew.trans (Sfr.of_grown HG3.out)
    · have hks : t.head.toNat < g.length := by
        have h1 := hft
        rw [fitsT_eq] at h1
        simp only [q1, decide_false, Bool.false_or, Bool.and_eq_true, armOk] at h1
        obtain ⟨h1, _⟩ := h1
        split at h1
        · rename_i y hy; exact (List.getElem?_eq_some_iff.1 hy).1
        · simp at h1
      have hin : inS g t.head := .inr hks
      have hwo := wo_bound hr hin
      obtain ⟨b, o, x, rfl, hbn, hsx, hxw, hc0, hc1, hc2, hc3⟩ := hG.elem (i := t.head.toNat) hks
      have hwx : wo g t.head = x.wt := by unfold wo; rw [if_neg q1, hsx]
      rw [hwx] at hwo
      have h0 : 0 ≤ t.head := by omega
      have h1 : t.head < (g.length : Int) := by omega
      have hsgm : -1000 ≤ sg pos * x.wt ∧ sg pos * x.wt ≤ 1000 := by rcases hsg with e | e <;> rw [e] <;> omega
      have hmul : IntKind.i64.wrap (sg pos * x.wt) = sg pos * x.wt := IntWalk.i64_in _ (by omega)
      have hadd : IntKind.i64.wrap (wS g S + sg pos * x.wt) = wS g S + sg pos * x.wt := IntWalk.i64_in _ (by omega)
      have hlg : g.length ≤ gc ∧ gc ≤ maxLen := ⟨hG.1, hG.2.1⟩
      unfold maxLen at hlg
      obtain ⟨hl3, hl4⟩ := hlg
      have hx2 : W1.cell? ⟨b, o + t.head.toNat * 4 + 2, none⟩ = some (.int .i64 x.wt) := (hF1.cell (p := ⟨b, _, none⟩) (by show b < w.heap.size; omega)).trans hc2
      have hS2 := hS1.sym h0 hin (hwf_of hwf) pos
      rw [hwx] at hS2
      have hF2 := (Sfr.of_below (Bs := Bs) (M := M) hF1).trans (Sfr.of_set Bs M W1 1 (.int .i64 (wS g S + sg pos * x.wt)))
      have hargs := fits_args hft hbd
      have HAR := Lib.hid (fun (s : T) (hs : s ∈ t.args) => hargs s hs)
      have HS1 := Lib.hid hS1
      have HS2 := Lib.hid hS2
      have HF1 := Lib.hid hF1
      have HF2 := Lib.hid hF2
      have HA := Lib.hid hA
      have HG := Lib.hid hG
      obtain ⟨c0, c1, c2, fz, dm, ok⟩ := hS1
      clear hA hG hS LT dm ok hF1 hwf hargs hS2 hF2 hft hbd hc0 hc1 hc2 hc3 hsx hxw hwx hsgm
      go_enter Tryz.func148, Tryz.ntmps148
      go_wp2
      clear hW1
      go_still_tail 18, (by kernel_rfl)
      change wpList _ _ _ _ _ W1.drew
      go_wp2
      have hW2s : Scl (W1.setCell ⟨Bs, 1, none⟩ (.int .i64 (wS g S + sg pos * x.wt))).drew Bs M g (some ⟨b, o, none⟩) gc (pl pos S [t.head]) := HS2.out.kept rfl rfl
      have hW2f : Sfr Bs M w (W1.setCell ⟨Bs, 1, none⟩ (.int .i64 (wS g S + sg pos * x.wt))).drew := HF2.out.drew
      have hW2v : (W1.setCell ⟨Bs, 1, none⟩ (.int .i64 (wS g S + sg pos * x.wt))).drew.cell? ⟨w.heap.size, 1, none⟩ = some (.slice a t.args.length c) := by
        show (W1.setCell ⟨Bs, 1, none⟩ (.int .i64 (wS g S + sg pos * x.wt))).cell? ⟨w.heap.size, 1, none⟩ = _
        rw [World.cell?_setCell_other _ _ _ _ (by intro q; simp at q <;> omega)]; exact hv1
      have hW2b : w.heap.size < (W1.setCell ⟨Bs, 1, none⟩ (.int .i64 (wS g S + sg pos * x.wt))).drew.heap.size := by
        show w.heap.size < (W1.setCell ⟨Bs, 1, none⟩ (.int .i64 (wS g S + sg pos * x.wt))).heap.size
        simpa using hb1
      clear HS1 HS2 HF1 HF2 c0 c1 c2 fz hv0 hv1 hx2 hmul hadd
      generalize (W1.setCell ⟨Bs, 1, none⟩ (.int .i64 (wS g S + sg pos * x.wt))).drew = W2 at *
      have HW2 := Lib.hid hW2s
      have HF2 := Lib.hid hW2f
      have HN := Lib.hid (show n₀ ≤ w.heap.size ∧ n₀ ≤ Bs ∧ n₀ ≤ M from ⟨hn, hnB, hnM⟩)
      have hlc : t.args.length ≤ c ∧ c ≤ maxLen := ⟨HA.out.1, HA.out.2.1⟩
      unfold maxLen at hlc
      obtain ⟨hl1, hl2⟩ := hlc
      clear hW2s hW2f
      go_loopw [49] (fun i wr => PtI Bs M g (some ⟨b, o, none⟩) gc pos S t W2 i wr) (fun i _ => t.args.length - (intOf i).toNat)
      case atStart => exact ⟨0, Nat.zero_le _, rfl, by simpa [T.hdsL] using HW2.out, Sfr.refl _ _ _⟩
      case round =>
        obtain ⟨k, hk, rfl, hSk, hFk⟩ := hrel
        have HSk := Lib.hid hSk
        have HFk := Lib.hid hFk
        have hvk : wr.cell? ⟨w.heap.size, 1, none⟩ = some (.slice a t.args.length c) := (hFk.cell hW2b hbB hbM).trans hW2v
        have hBw : Below n₀ w wr := (HF2.out.trans hFk).below HN.out.2.1 HN.out.2.2 HN.out.1
        have hszr := hFk.size
        by_cases hlt : k < t.args.length
        · obtain ⟨bb, oo, s, a', c', rfl, hbbn, hs, hswf, hcs1, hcs2, hA'⟩ := (HA.out.below hBw).elem (i := k) hlt
          have hk0 : (0 : Int) ≤ (k : Int) := Int.natCast_nonneg _
          have hk1 : (k : Int) < (t.args.length : Int) := by omega
          have hsm := List.mem_of_getElem? hs
          obtain ⟨hfs, hbs⟩ := HAR.out s hsm
          have hss : s.size ≤ N := by
            have h1 := T.size_lt_of_mem hs
            have h2 := T.size_eq t
            omega
          have hls : lenS (pl pos S (t.head :: T.hdsL (t.args.take k))) + s.size ≤ 1000000 := by
            rw [lenS_pl, List.length_cons, T.hdsL_length]
            have h1 := T.sizes_take hs
            have h2 := T.size_eq t
            have h3 := T.sizes_append (t.args.take (k + 1)) (t.args.drop (k + 1))
            rw [List.take_append_drop] at h3
            omega
          have hcall := IH.out s hss hfs hbs _ hls n₀ (some ⟨b, o, none⟩) gc a' c' Bs M wr HN.out.2.1 HN.out.2.2 (Nat.le_trans HN.out.1 (by omega)) (HG.out.below hBw) hswf hA' hSk
          rw [pl_pl, List.cons_append, ← hdsL_take' hs] at hcall
          have HCALL := Lib.hid hcall
          have hbb : bb < wr.heap.size := by omega
          clear hcall hA' hs hsm hSk hFk hBw hls hss
          go_wp2_with fail
          refine HCALL.out.mono ?_
          rintro e w5 ⟨rfl, hS5, hF5⟩
          have HS5 := Lib.hid hS5
          have HF5 := Lib.hid (HFk.out.trans hF5)
          clear hS5 hF5
          go_wp2
          go_roundw
          case rel => exact ⟨k + 1, by omega, by go_num, HS5.out, HF5.out⟩
          case measure => simp [intOf]; omega
        · obtain rfl : k = t.args.length := by omega
          clear hSk hFk hBw
          go_wp2
          refine bodyPost_end (v := .tuple #[]) (by simp [results, Tryz.results148, go_sem]) rfl ?_
          refine ⟨rfl, ?_, HF2.out.trans HFk.out⟩
          have := HSk.out
          rw [List.take_length, ← T.hds_eq] at this
          exact this
end Go.Proofs.YtpncmdlbmnmahaaGreat

/- Kbo's scale: contracts of add, byHead and decide. -/
namespace Go.Proofs.YtpncmdlbmnmahaaGreat
set_option linter.unusedVariables false
set_option linter.unusedSimpArgs false
open Go.RowKit Go.Maps
/-- Both terms put on their sides. -/
def ab (S : Sds) (a b : T) : Sds := pl false (pl true S a.hds) b.hds
set_option maxRecDepth 100000 in
set_option maxHeartbeats 4000000 in
theorem scAdd_any (g : Sg) (hr : rightG g = true) (t u : T) (hft : fitsT g t = true) (hbt : bad (T.subs 1 t) = false) (hfu : fitsT g u = true) (hbu : bad (T.subs 1 u) = false) (S : Sds) (hlen : lenS S + t.size + u.size ≤ 1000000)
    (n₀ : Nat) (ga : Option Addr) (gc : Nat) (a : Option Addr) (c : Nat) (a' : Option Addr) (c' Bs M : Nat) (w : World) (hnB : n₀ ≤ Bs) (hnM : n₀ ≤ M) (hn : n₀ ≤ w.heap.size) (hG : IsSg n₀ w g ga gc) (hwt : (Lit.int .i64 t.head).wf = true) (hwu : (Lit.int .i64 u.head).wf = true) (hA : IsArgs n₀ w t.args a c) (hA' : IsArgs n₀ w u.args a' c') (hS : Scl w Bs M g ga gc S) :
    Calls Tryz.prog 129 #[.pointer (some ⟨Bs, 0, none⟩), tm t.head a t.args.length c, tm u.head a' u.args.length c'] w (ScPost Bs M g ga gc (ab S t u) w) := by
  have hBl := hS.lt
  have hMl := hS.map.lt
  obtain ⟨W1, hW1⟩ : ∃ W1, w.alloc (tmCells t.head a t.args.length c) = W1 := ⟨_, rfl⟩
  have hs1 : W1.heap.size = w.heap.size + 1 := by rw [← hW1]; simp
  have hF1 : Below w.heap.size w W1 := by rw [← hW1]; exact (Below.refl _ w).alloc (Nat.le_refl _) _
  have L1 : Later (fun X => Vc w.heap.size t.head a t.args.length c X) W1 := by rw [← hW1]; exact later_var w _ _ _ _
  obtain ⟨W2, hW2⟩ : ∃ W2, W1.alloc (tmCells u.head a' u.args.length c') = W2 := ⟨_, rfl⟩
  have hs2 : W2.heap.size = w.heap.size + 2 := by rw [← hW2]; simp; omega
  have hF2 : Below w.heap.size w W2 := by rw [← hW2]; exact hF1.alloc (by omega) _
  have L2 : Later (fun X => Vc W1.heap.size u.head a' u.args.length c' X) W2 := by rw [← hW2]; exact later_var W1 _ _ _ _
  obtain ⟨hv0, hv1⟩ := (L1.mv (by rw [← hW2]; exact (Below.refl _ W1).alloc (Nat.le_refl _) _) : Later (fun X => Vc w.heap.size t.head a t.args.length c X) W2).now
  obtain ⟨hu0, hu1⟩ := L2.now
  rw [hs1] at hu0 hu1
  have hS2 := hS.later hF2
  have P1 := scPut_any g hr true t.size t (Nat.le_refl _) hft hbt S (by omega) n₀ ga gc a c Bs M W2 hnB hnM (by omega) (hG.below (hF2.mono hn)) hwt (hA.below (hF2.mono hn)) hS2
  have hl2 : lenS (pl true S t.hds) + u.size ≤ 1000000 := by rw [lenS_pl, T.hds_length]; omega
  have P2 := fun (W : World) (hW : Below n₀ W2 W) (hz : W2.heap.size ≤ W.heap.size) (hSW : Scl W Bs M g ga gc (pl true S t.hds)) =>
    scPut_any g hr false u.size u (Nat.le_refl _) hfu hbu (pl true S t.hds) hl2 n₀ ga gc a' c' Bs M W hnB hnM (by omega) (hG.below ((hF2.mono hn).trans hW)) hwu (hA'.below ((hF2.mono hn).trans hW)) hSW
  have P1 := Lib.hid P1
  have P2 := Lib.hid P2
  have HF2 := Lib.hid hF2
  have hbB : w.heap.size + 1 ≠ Bs := by omega
  have hbM : w.heap.size + 1 ≠ M := by omega
  clear hG hA hA' hS hS2 hF1 L1 L2 hF2
  go_enter Tryz.func129, Tryz.ntmps129
  go_wp2_with fail
  refine P1.out.mono ?_
  rintro e w3 ⟨rfl, hS3, hF3⟩
  have hb3 : Below n₀ W2 w3 := hF3.below hnB hnM (by omega)
  have hu0' : w3.cell? ⟨w.heap.size + 1, 0, none⟩ = some (.int .i64 u.head) := (hF3.cell (by omega) hbB hbM).trans hu0
  have hu1' : w3.cell? ⟨w.heap.size + 1, 1, none⟩ = some (.slice a' u.args.length c') := (hF3.cell (by omega) hbB hbM).trans hu1
  have Q2 := Lib.hid (P2.out w3 hb3 hF3.size hS3)
  have HF3 := Lib.hid ((Sfr.of_below HF2.out).trans hF3)
  clear hS3 hF3 hb3
  go_wp2_with fail
  refine Q2.out.mono ?_
  rintro e w4 ⟨rfl, hS4, hF4⟩
  have HS4 := Lib.hid hS4
  have HF4 := Lib.hid (HF3.out.trans hF4)
  clear hS4 hF4
  go_wp2
  refine bodyPost_end (v := .tuple #[]) (by simp [results, Tryz.results129, go_sem]) rfl ?_
  exact ⟨rfl, HS4.out, HF4.out⟩
/-- By the heads. -/
def byH (a b : T) : Int := if a.head < 0 ∨ b.head < 0 then 2 else ord a.head b.head
set_option maxRecDepth 100000 in
set_option maxHeartbeats 4000000 in
theorem byHead_any (t u : T) (a : Option Addr) (n c : Nat) (a' : Option Addr) (n' c' : Nat) (w : World) :
    Calls Tryz.prog 131 #[tm t.head a n c, tm u.head a' n' c'] w fun e w' => e = .returned (.int .i64 (byH t u)) ∧ Below w.heap.size w w' := by
  have HF := Lib.hid (show Below w.heap.size w ((w.alloc (tmCells t.head a n c)).alloc (tmCells u.head a' n' c')) from ((Below.refl _ w).alloc (Nat.le_refl _) _).alloc (by simp) _)
  by_cases h1 : t.head < 0
  · have HE := Lib.hid (show byH t u = 2 from by unfold byH; rw [if_pos (.inl h1)])
    go_enter Tryz.func131, Tryz.ntmps131
    go_wp2
    go_ret
    exact ⟨by rw [HE.out]; rfl, HF.out⟩
  · by_cases h2 : u.head < 0
    · have HE := Lib.hid (show byH t u = 2 from by unfold byH; rw [if_pos (.inr h2)])
      go_enter Tryz.func131, Tryz.ntmps131
      go_wp2
      go_ret
      exact ⟨by rw [HE.out]; rfl, HF.out⟩
    · have HE := Lib.hid (show byH t u = ord t.head u.head from by unfold byH; rw [if_neg (by omega)])
      go_enter Tryz.func131, Tryz.ntmps131
      go_wp2_with (go_at_call 105; refine (cmpCompare_any _ _ _).mono ?_; rintro e w' ⟨rfl, rfl⟩)
      go_ret
      exact ⟨by rw [HE.out]; rfl, HF.out⟩
/-! ### decide -/
def badB (o n : Int) : Bool := (decide (o = 1) && decide (n < 0)) || (decide (o = -1) && decide (0 < n))
def anyBad (S : Sds) (o : Int) : Bool := (S.1 ++ S.2).any fun v => decide (v < 0) && badB o (cS S v)
def decO (g : Sg) (S : Sds) (o : Int) : Int := if wS g S = 0 then o else ord (wS g S) 0
def decV (g : Sg) (S : Sds) (o : Int) : Int := if anyBad S (decO g S o) then 2 else decO g S o
theorem DifM.entry {S : Sds} {D : DataW Unit} (h3 : ∀ v, hwf v → Maps.has D (.int .i64 v) = decide (v < 0 ∧ (v ∈ S.1 ∨ v ∈ S.2)) ∧ (v < 0 → (v ∈ S.1 ∨ v ∈ S.2) → ∀ z, D.atKey (.int .i64 v) z = .lit (.int .i64 (cS S v)))) {x c : Int} (hx : (Lit.int .i64 x).wf = true)
    (hat : ∀ zd, D.atKey (.int .i64 x) zd = .lit (.int .i64 c)) : x < 0 ∧ (x ∈ S.1 ∨ x ∈ S.2) ∧ c = cS S x := by
  obtain ⟨q1, q2⟩ := h3 x (hwf_of hx)
  by_cases hm : x < 0 ∧ (x ∈ S.1 ∨ x ∈ S.2)
  · refine ⟨hm.1, hm.2, ?_⟩
    have := (hat .nil).symm.trans (q2 hm.1 hm.2 .nil)
    simpa using this
  · have h1 := hat .nil
    rw [Maps.atKey_of_not_has (by rw [q1]; simp [hm])] at h1
    cases h1
/-- None of those that have come is bad. -/
def NoBad (S : Sds) (o : Int) (left : Lit → Bool) : Prop := ∀ v, v < 0 → (v ∈ S.1 ∨ v ∈ S.2) → left (.int .i64 v) = false → badB o (cS S v) = false
theorem NoBad.none {S : Sds} {o : Int} {left : Lit → Bool} (h : NoBad S o left) (hl : ∀ kl, left kl = false) : anyBad S o = false := by
  unfold anyBad
  rw [List.any_eq_false]
  intro v hv
  rw [List.mem_append] at hv
  by_cases q : v < 0
  · rw [h v q hv (hl _)]; simp
  · simp [q]
theorem NoBad.step {S : Sds} {o : Int} {left : Lit → Bool} (h : NoBad S o left) {x : Int} (hx : badB o (cS S x) = false) : NoBad S o (fun z => left z && !z.sameKey (.int .i64 x)) := by
  intro v hv hm hl
  by_cases e : v = x
  · rw [e]; exact hx
  · refine h v hv hm ?_
    simpa [sameKey_int, e] using hl
theorem anyBad_hit {S : Sds} {o x : Int} (h0 : x < 0) (hm : x ∈ S.1 ∨ x ∈ S.2) (hx : badB o (cS S x) = true) : anyBad S o = true := by
  unfold anyBad
  rw [List.any_eq_true]
  exact ⟨x, List.mem_append.2 hm, by simp [h0, hx]⟩
set_option maxRecDepth 100000 in
set_option maxHeartbeats 4000000 in
theorem decide_any (g : Sg) (hr : rightG g = true) (S : Sds) (o : Int) (hlen : lenS S ≤ 1000000) (ga : Option Addr) (gc Bs M : Nat) (w : World) (hS : Scl w Bs M g ga gc S) :
    Calls Tryz.prog 130 #[.pointer (some ⟨Bs, 0, none⟩), .int .i64 o] w fun e w' => e = .returned (.int .i64 (decV g S o)) ∧ Below w.heap.size w w' := by
  have hwb := wS_bound hr (fun v hv => (hS.ok v hv).1)
  have hMl := hS.map.lt
  obtain ⟨c0, c1, c2, fz, ⟨D, nn, hnn, hown, hD⟩, ok⟩ := hS
  have HD := Lib.hid hD
  have HOK := Lib.hid (fun v hv => (ok v hv).2)
  clear hD ok
  obtain ⟨o', ho'⟩ : ∃ o', decO g S o = o' := ⟨_, rfl⟩
  obtain ⟨x0, hx0⟩ : ∃ x0, wS g S = x0 := ⟨_, rfl⟩
  rw [hx0] at c1
  obtain ⟨r, hr'⟩ : ∃ r, decV g S o = r := ⟨_, rfl⟩
  have HV := Lib.hid (show r = if anyBad S o' then 2 else o' from by rw [← hr']; unfold decV; rw [ho'])
  rw [hr']
  clear hr' hr
  by_cases h0 : x0 = 0
  · have he : o = o' := by rw [← ho']; unfold decO; rw [hx0, if_pos h0]
    rw [he]
    subst h0
    clear ho' hx0 hwb he
    go_enter Tryz.func130, Tryz.ntmps130
    go_wp2_with (first | (at_range; refine wpList_range_own _ rfl _ 132 rfl 3 3 keyHd Tryz.underlying132 _ M _ D rfl hown ?_; intro w4 hrg0 hg0 hs0))
    go_frame
    clear hs0 hown c0 c1 c2 fz
    have HST := Lib.hid (show ∃ (left : Lit → Bool) (cnt : Nat), w4.ranges Tryz.prog 3 (plainElem Tryz.prog 3) M w.heap.size nn D left cnt ∧ NoBad S o' left ∧ Below w.heap.size w w4 from
      ⟨_, _, hrg0, fun v hv hm hl => absurd hl (by rw [(HD.out v (HOK.out v hm)).1]; simp [hv, hm]), (Below.refl _ w).grown hg0 (Nat.le_refl _) (fun k e => by cases e)⟩)
    clear hrg0 hg0
    go_loopw [] (fun wr => ∃ (left : Lit → Bool) (cnt : Nat), wr.ranges Tryz.prog 3 (plainElem Tryz.prog 3) M w.heap.size nn D left cnt ∧ NoBad S o' left ∧ Below w.heap.size w wr) (fun wr => wr.rangeLeft M w.heap.size)
    case atStart => exact HST.out
    case round =>
      clear HST
      obtain ⟨left, cnt, hrg, hNB, hB⟩ := hrel
      have HB := Lib.hid hB
      have HNB := Lib.hid hNB
      clear hB hNB
      go_wp2_with (first | (at_next; refine wpList_next_ranges_ii _ rfl _ rfl 3 3 .i64 .i64 keyHd Tryz.underlying3 Tryz.underlying3 M w.heap.size _ _ _ _ rfl hrg ?_ ?_))
      · intro hc0 hl0
        have HE := Lib.hid (show r = o' from by rw [HV.out, HNB.out.none hl0]; rfl)
        go_wp2
        go_ret
        exact ⟨by rw [HE.out]; rfl, HB.out⟩
      · intro x cv w5 cnt1 hwx hwc hlx hat hrg1 hlt hg1 hs1 hen
        have HB5 := Lib.hid (HB.out.grown hg1 HB.out.size (fun j hj => by cases hj; exact Nat.le_refl _))
        obtain ⟨hx0, hxm, hcv⟩ := DifM.entry HD.out hwx hat
        have HRG := Lib.hid hrg1
        have HR0 := Lib.hid hrg
        have HX := Lib.hid (And.intro hx0 hxm)
        have HCV := Lib.hid hcv
        clear hrg1 hat hwx hwc hlx hrg hx0 hxm hcv
        by_cases q1 : o' = 1
        · by_cases q2 : cv < 0
          · have HE := Lib.hid (show r = 2 from by rw [HV.out, anyBad_hit HX.out.1 HX.out.2 (by rw [← HCV.out]; simp [badB, q1, q2])]; rfl)
            rw [q1]
            go_wp2
            go_ret
            exact ⟨by rw [HE.out]; rfl, HB5.out⟩
          · have HN := Lib.hid (HNB.out.step (x := x) (by rw [← HCV.out]; simp [badB, q1, q2]))
            rw [q1] at HN ⊢
            go_wp2
            go_roundw
            case rel => first | exact ⟨_, ⟨cnt1, HRG.out⟩, HN.out, HB5.out⟩ | exact ⟨_, cnt1, HRG.out, HN.out, HB5.out⟩
            case measure => rw [HRG.out.left_eq, HR0.out.left_eq]; exact hlt
        · by_cases q3 : o' = -1
          · by_cases q2 : 0 < cv
            · have HE := Lib.hid (show r = 2 from by rw [HV.out, anyBad_hit HX.out.1 HX.out.2 (by rw [← HCV.out]; simp [badB, q3, q2])]; rfl)
              rw [q3]
              go_wp2
              go_ret
              exact ⟨by rw [HE.out]; rfl, HB5.out⟩
            · have HN := Lib.hid (HNB.out.step (x := x) (by rw [← HCV.out]; simp [badB, q3, q2]))
              rw [q3] at HN ⊢
              go_wp2
              go_roundw
              case rel => first | exact ⟨_, ⟨cnt1, HRG.out⟩, HN.out, HB5.out⟩ | exact ⟨_, cnt1, HRG.out, HN.out, HB5.out⟩
              case measure => rw [HRG.out.left_eq, HR0.out.left_eq]; exact hlt
          · have HN := Lib.hid (HNB.out.step (x := x) (by simp [badB, q1, q3]))
            go_wp2
            go_roundw
            case rel => first | exact ⟨_, ⟨cnt1, HRG.out⟩, HN.out, HB5.out⟩ | exact ⟨_, cnt1, HRG.out, HN.out, HB5.out⟩
            case measure => rw [HRG.out.left_eq, HR0.out.left_eq]; exact hlt
  · have he : ord x0 0 = o' := by rw [← ho']; unfold decO; rw [hx0, if_neg h0]
    have HC := Lib.hid (fun (W : World) => show Calls Tryz.prog 105 #[.int .i64 x0, .int .i64 0] W fun e w' => e = .returned (.int .i64 o') ∧ W = w' from by rw [← he]; exact (cmpCompare_any x0 0 W).mono fun _ _ h => ⟨h.1, h.2.symm⟩)
    have h0' : (x0 != 0) = true := by simpa using h0
    clear ho' hx0 hwb he h0
    go_enter Tryz.func130, Tryz.ntmps130
    go_wp2_with (first | (go_at_call 105; refine (HC.out _).mono ?_; rintro e w' ⟨rfl, rfl⟩) | (at_range; refine wpList_range_own _ rfl _ 132 rfl 3 3 keyHd Tryz.underlying132 _ M _ D rfl hown ?_; intro w4 hrg0 hg0 hs0))
    go_frame
    clear hs0 hown c0 c1 c2 fz
    have HST := Lib.hid (show ∃ (left : Lit → Bool) (cnt : Nat), w4.ranges Tryz.prog 3 (plainElem Tryz.prog 3) M w.heap.size nn D left cnt ∧ NoBad S o' left ∧ Below w.heap.size w w4 from
      ⟨_, _, hrg0, fun v hv hm hl => absurd hl (by rw [(HD.out v (HOK.out v hm)).1]; simp [hv, hm]), (Below.refl _ w).grown hg0 (Nat.le_refl _) (fun k e => by cases e)⟩)
    clear hrg0 hg0
    go_loopw [] (fun wr => ∃ (left : Lit → Bool) (cnt : Nat), wr.ranges Tryz.prog 3 (plainElem Tryz.prog 3) M w.heap.size nn D left cnt ∧ NoBad S o' left ∧ Below w.heap.size w wr) (fun wr => wr.rangeLeft M w.heap.size)
    case atStart => exact HST.out
    case round =>
      clear HST
      obtain ⟨left, cnt, hrg, hNB, hB⟩ := hrel
      have HB := Lib.hid hB
      have HNB := Lib.hid hNB
      clear hB hNB
      go_wp2_with (first | (at_next; refine wpList_next_ranges_ii _ rfl _ rfl 3 3 .i64 .i64 keyHd Tryz.underlying3 Tryz.underlying3 M w.heap.size _ _ _ _ rfl hrg ?_ ?_))
      · intro hc0 hl0
        have HE := Lib.hid (show r = o' from by rw [HV.out, HNB.out.none hl0]; rfl)
        go_wp2
        go_ret
        exact ⟨by rw [HE.out]; rfl, HB.out⟩
      · intro x cv w5 cnt1 hwx hwc hlx hat hrg1 hlt hg1 hs1 hen
        have HB5 := Lib.hid (HB.out.grown hg1 HB.out.size (fun j hj => by cases hj; exact Nat.le_refl _))
        obtain ⟨hx0, hxm, hcv⟩ := DifM.entry HD.out hwx hat
        have HRG := Lib.hid hrg1
        have HR0 := Lib.hid hrg
        have HX := Lib.hid (And.intro hx0 hxm)
        have HCV := Lib.hid hcv
        clear hrg1 hat hwx hwc hlx hrg hx0 hxm hcv
        by_cases q1 : o' = 1
        · by_cases q2 : cv < 0
          · have HE := Lib.hid (show r = 2 from by rw [HV.out, anyBad_hit HX.out.1 HX.out.2 (by rw [← HCV.out]; simp [badB, q1, q2])]; rfl)
            rw [q1]
            go_wp2
            go_ret
            exact ⟨by rw [HE.out]; rfl, HB5.out⟩
          · have HN := Lib.hid (HNB.out.step (x := x) (by rw [← HCV.out]; simp [badB, q1, q2]))
            rw [q1] at HN ⊢
            go_wp2
            go_roundw
            case rel => first | exact ⟨_, ⟨cnt1, HRG.out⟩, HN.out, HB5.out⟩ | exact ⟨_, cnt1, HRG.out, HN.out, HB5.out⟩
            case measure => rw [HRG.out.left_eq, HR0.out.left_eq]; exact hlt
        · by_cases q3 : o' = -1
          · by_cases q2 : 0 < cv
            · have HE := Lib.hid (show r = 2 from by rw [HV.out, anyBad_hit HX.out.1 HX.out.2 (by rw [← HCV.out]; simp [badB, q3, q2])]; rfl)
              rw [q3]
              go_wp2
              go_ret
              exact ⟨by rw [HE.out]; rfl, HB5.out⟩
            · have HN := Lib.hid (HNB.out.step (x := x) (by rw [← HCV.out]; simp [badB, q3, q2]))
              rw [q3] at HN ⊢
              go_wp2
              go_roundw
              case rel => first | exact ⟨_, ⟨cnt1, HRG.out⟩, HN.out, HB5.out⟩ | exact ⟨_, cnt1, HRG.out, HN.out, HB5.out⟩
              case measure => rw [HRG.out.left_eq, HR0.out.left_eq]; exact hlt
          · have HN := Lib.hid (HNB.out.step (x := x) (by simp [badB, q1, q3]))
            go_wp2
            go_roundw
            case rel => first | exact ⟨_, ⟨cnt1, HRG.out⟩, HN.out, HB5.out⟩ | exact ⟨_, cnt1, HRG.out, HN.out, HB5.out⟩
            case measure => rw [HRG.out.left_eq, HR0.out.left_eq]; exact hlt
end Go.Proofs.YtpncmdlbmnmahaaGreat
