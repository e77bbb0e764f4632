/- QBo: joined of Tb0, Ap0, Lap, Wp0, Wp1. -/
import Derived.Test.YtpncmdlbmnmahaaGreatQBn
import Derived.Test.YtpncmdlbmnmahaaGreatCopy
import Derived.Maps.OwnSet
import Derived.Shelf.Abstract
import Derived.Test.YtpncmdlbmnmahaaGreatQBd
import Derived.Test.YtpncmdlbmnmahaaGreatQBe
/- Tb0: of Tab, without offsets. -/
/- Contracts of tableOf (a map) and of its method replacement. -/
namespace Go.Proofs.YtpncmdlbmnmahaaGreat
set_option linter.unusedVariables false
set_option linter.unusedSimpArgs false
open Go.RowKit Go.Maps
theorem zeroTerm (w : World) : (zeroValue 42).run Tryz.prog w = .ok (tm 0 none 0 0) w := by kernel_rfl
theorem run_makeTable (n : Int) (w : World) : (Instr.makeMap 112 (some (.int .i64 n))).run Tryz.prog w = .ok (.map (some w.heap.size)) (w.alloc (.map #[] 0)) := by
  simp [Instr.makeMap, run_underlying Tryz.underlying112, asInt, asIntOf, Result.andThen]
def bnd (s : Sb) (v : Int) : Bool := s.any (fun p => decide (p.1 = v))
theorem bnd_snoc (s : Sb) (x : Int) (t : T) (v : Int) : bnd (s ++ [(x, t)]) v = (bnd s v || decide (x = v)) := by simp [bnd]
theorem ofS_unbound {s : Sb} {v : Int} (h : bnd s v = false) : ofS s v = vt v := by
  induction s with
  | nil => rfl
  | cons p s ih =>
    obtain ⟨x, t⟩ := p
    simp only [bnd, List.any_cons, Bool.or_eq_false_iff, decide_eq_false_iff_not] at h
    rw [ofS, if_neg h.1]
    exact ih h.2
theorem ofS_snoc (s : Sb) (x : Int) (t : T) (v : Int) : ofS (s ++ [(x, t)]) v = if bnd s v then ofS s v else if x = v then t else vt v := by
  induction s with
  | nil => simp [bnd, ofS]
  | cons p s ih =>
    obtain ⟨y, u⟩ := p
    simp only [List.cons_append, ofS, bnd, List.any_cons]
    by_cases h : y = v
    · simp [h]
    · simp only [if_neg h, decide_eq_false h, Bool.false_or]
      exact ih
theorem rightS_low {s : Sb} : ∀ {l : Int}, rightS l s = true → ∀ {i : Nat} {x : Int × T}, s[i]? = some x → l ≤ x.1 ∧ x.1 ≤ 255 ∧ x.2.check = 0 ∧ x.2.head ≠ -1 - x.1 := by
  induction s with
  | nil => intro l _ i x hx; simp at hx
  | cons p s ih =>
    intro l h i x hx
    obtain ⟨y, u⟩ := p
    simp only [rightS, Bool.and_eq_true, decide_eq_true_iff] at h
    cases i with
    | zero => simp at hx; subst hx; exact ⟨h.1.1.1.1, h.1.1.1.2, h.1.1.2, h.1.2⟩
    | succ i =>
      have h2 := ih h.2 (i := i) (x := x) (by simpa using hx)
      exact ⟨by have := h.1.1.1.1; omega, h2.2⟩
theorem rightS_lt {s : Sb} : ∀ {l : Int}, rightS l s = true → ∀ {i j : Nat} {x y : Int × T}, i < j → s[i]? = some x → s[j]? = some y → x.1 < y.1 := by
  induction s with
  | nil => intro l _ i j x y _ hx; simp at hx
  | cons p s ih =>
    intro l h i j x y hij hx hy
    obtain ⟨z, u⟩ := p
    simp only [rightS, Bool.and_eq_true, decide_eq_true_iff] at h
    cases j with
    | zero => omega
    | succ j =>
      have hy' : s[j]? = some y := by simpa using hy
      cases i with
      | zero =>
        simp at hx; subst hx
        have := (rightS_low h.2 hy').1
        show z < y.1
        omega
      | succ i => exact ih h.2 (i := i) (j := j) (by omega) (by simpa using hx) hy'
theorem rightS_fresh {s : Sb} {l : Int} (h : rightS l s = true) {k : Nat} {x : Int} {t : T} (hk : s[k]? = some (x, t)) : bnd (s.take k) x = false := by
  simp only [bnd, List.any_eq_false, decide_eq_true_eq]
  intro p hp e
  obtain ⟨i, hi⟩ := List.getElem?_of_mem hp
  have hik : i < k := by
    have := (List.getElem?_eq_some_iff.1 hi).1
    simp at this
    omega
  rw [List.getElem?_take, if_pos hik] at hi
  have := rightS_lt h hik hi hk
  simp at this
  omega
/-- The map in block B has what s puts for its variables. -/
def TabR (n₀ : Nat) (W : World) (B : Nat) (s : Sb) : Prop :=
  ∃ D : DataW Value, W.ownsMap Tryz.prog 3 heldR B s.length D ∧ (∀ v, bnd s v = false → Maps.has D (.int .i64 v) = false) ∧
    (∀ v, bnd s v = true → Maps.has D (.int .i64 v) = true ∧ (Lit.int .i64 (ofS s v).head).wf = true ∧ ∃ a c, (∀ z, D.atKey (.int .i64 v) z = .held (tm (ofS s v).head a (ofS s v).args.length c)) ∧ IsArgs n₀ W (ofS s v).args a c)
theorem ownsMap_below {W W' : World} {k : TypeId} {R : Value → Option (DataW Value × List MemPlace)} {B n : Nat} {D : DataW Value} (h : W.ownsMap Tryz.prog k R B n D) (hb : Below W.heap.size W W') : W'.ownsMap Tryz.prog k R B n D :=
  h.kept (row := none) ⟨hb.os, hb.tape, hb.output, hb.size, fun k hk _ => hb.block k hk⟩ (by simp)
theorem TabR.below {n₀ : Nat} {W W' : World} {B : Nat} {s : Sb} (h : TabR n₀ W B s) (hn : n₀ ≤ W.heap.size) (hb : Below W.heap.size W W') : TabR n₀ W' B s := by
  obtain ⟨D, h1, h2, h3⟩ := h
  refine ⟨D, ownsMap_below h1 hb, h2, fun v hv => ?_⟩
  obtain ⟨q1, q2, a, c, q3, q4⟩ := h3 v hv
  exact ⟨q1, q2, a, c, q3, q4.below (hb.mono hn)⟩
theorem tab_step {n₀ : Nat} {W w1 : World} {B : Nat} {s : Sb} {D : DataW Value} {x : Int} {t : T} {a : Option Addr} {c : Nat} (hfr : bnd s x = false) (hD : W.ownsMap Tryz.prog 3 heldR B s.length D) (h2 : ∀ v, bnd s v = false → Maps.has D (.int .i64 v) = false)
    (h3 : ∀ v, bnd s v = true → Maps.has D (.int .i64 v) = true ∧ (Lit.int .i64 (ofS s v).head).wf = true ∧ ∃ a c, (∀ z, D.atKey (.int .i64 v) z = .held (tm (ofS s v).head a (ofS s v).args.length c)) ∧ IsArgs n₀ W (ofS s v).args a c)
    (h1 : w1.ownsMap Tryz.prog 3 heldR B (s.length + 1) (D.put (.int .i64 x) (.held (tm t.head a t.args.length c)))) (htw : (Lit.int .i64 t.head).wf = true) (hA : IsArgs n₀ w1 t.args a c) (hb : Below n₀ W w1) : TabR n₀ w1 B (s ++ [(x, t)]) := by
  have hM := hD.isMap
  refine ⟨_, by simpa using h1, fun v hv => ?_, fun v hv => ?_⟩
  · rw [bnd_snoc, Bool.or_eq_false_iff, decide_eq_false_iff_not] at hv
    rw [Maps.has_put_other (by intro e; injection e with _ e; exact hv.2 e.symm)]
    exact h2 v hv.1
  · rw [ofS_snoc]
    by_cases e : x = v
    · subst e
      rw [hfr, if_neg (by simp), if_pos rfl]
      exact ⟨Maps.has_put_same (k := .int .i64 x) hM (show WideAt.IsKeyLit (.int .i64 x) from trivial) _, htw, a, c, fun z => Maps.atKey_put_same (k := .int .i64 x) hM (show WideAt.IsKeyLit (.int .i64 x) from trivial) _ z, hA⟩
    · rw [bnd_snoc, decide_eq_false e, Bool.or_false] at hv
      rw [if_pos hv]
      obtain ⟨q1, q2, a', c', q3, q4⟩ := h3 v hv
      have hne : Lit.int .i64 v ≠ Lit.int .i64 x := by intro e'; injection e' with _ e'; exact e e'.symm
      exact ⟨by rw [Maps.has_put_other hne]; exact q1, q2, a', c', fun z => by rw [Maps.atKey_put_other hne]; exact q3 z, q4.below hb⟩
def TabPost (n₀ : Nat) (s : Sb) (w : World) (e : Ending) (w' : World) : Prop := ∃ B, e = .returned (.map (some B)) ∧ TabR n₀ w' B s ∧ Below w.heap.size w w'
def TabI (n₀ : Nat) (s : Sb) (w : World) (i : Value) (wr : World) : Prop := ∃ k : Nat, k ≤ s.length ∧ i = .int .i64 k ∧ TabR n₀ wr w.heap.size (s.take k) ∧ Below w.heap.size w wr ∧ w.heap.size + 1 ≤ wr.heap.size
set_option maxRecDepth 100000 in
set_option maxHeartbeats 2000000 in
theorem tableOf_any (s : Sb) (hr : rightS 0 s = true) (n₀ : Nat) (a : Option Addr) (c : Nat) (w : World) (hn : n₀ ≤ w.heap.size) (hS : IsBs n₀ w s a c) :
    Calls Tryz.prog 82 #[.slice a s.length c] w (TabPost n₀ s w) := by
  have hl : s.length ≤ c ∧ c ≤ maxLen := ⟨hS.1, hS.2.1⟩
  unfold maxLen at hl
  obtain ⟨hl1, hl2⟩ := hl
  have HS := Lib.hid hS
  have HR := Lib.hid hr
  have hmm := run_makeTable
  have HST := Lib.hid (show TabI n₀ s w (.int .i64 ((0 : Nat) : Int)) (w.alloc (.map #[] 0)) from
    ⟨0, Nat.zero_le _, rfl, ⟨.map [], World.ownsMap_made w Tryz.prog 3 heldR, fun v _ => rfl, fun v hv => by simp [bnd] at hv⟩, (Below.refl _ _).alloc (Nat.le_refl _) _, by simp⟩)
  clear hS hr
  go_enter Tryz.func82, Tryz.ntmps82
  go_wp2
  go_loopw [11] (fun i wr => TabI n₀ s w i wr) (fun i _ => s.length - (intOf i).toNat)
  case atStart => exact HST.out
  case round =>
    obtain ⟨k, hk, rfl, hT, hB, hz⟩ := hrel
    have HT := Lib.hid hT
    have HB := Lib.hid hB
    clear hT hB hmm HST
    by_cases hlt : k < s.length
    · obtain ⟨b, o, x, t, a', c', rfl, hbn, hsk, hxw, htw, hc0, hc1, hc2, hA'⟩ := (HS.out.below (HB.out.mono hn)).elem (i := k) hlt
      have hk0 : (0 : Int) ≤ (k : Int) := Int.natCast_nonneg _
      have hk1 : (k : Int) < (s.length : Int) := by omega
      have HSK := Lib.hid hsk
      have HTW := Lib.hid htw
      have HA' := Lib.hid hA'
      have hkey := keyOf_int_mk (P := Tryz.prog) (k := 3) Tryz.underlying3 hxw
      have hbw : b < wr.heap.size := by omega
      obtain ⟨D, hD, h2, h3⟩ := HT.out
      have htl : (s.take k).length = k := by simp; omega
      have HD := Lib.hid hD
      have H2 := Lib.hid h2
      have H3 := Lib.hid h3
      have hDk := hD
      rw [htl] at hDk
      clear hsk htw hxw hA' hD h2 h3
      go_wp2_with (first | (at_mapUpdate; refine wpList_mapUpdate_own _ (by rfl) _ _ _ 112 (by rfl) 3 42 keyInt Tryz.underlying112 heldR w.heap.size k D (by rfl) (hDk.alloc _) (by unfold maxLen; omega) _ _ (.int .i64 x) (by rfl) (by rfl) hkey (.held (tm t.head a' t.args.length c')) [] (by rfl) ?_; intro w1 hown1 hgrow1) | go_in)
      go_roundw
      case rel =>
        have hb1 : Below w.heap.size wr w1 := ((Below.refl w.heap.size wr).alloc (by omega) _).grown hgrow1 (by simp; omega) (fun k hk => by cases hk; exact Nat.le_refl _)
        refine ⟨k + 1, by omega, by go_num, ?_, HB.out.trans hb1, by have := hb1.size; omega⟩
        obtain ⟨hkl, hke⟩ := List.getElem?_eq_some_iff.1 HSK.out
        rw [List.take_succ_eq_append_getElem hkl, hke]
        exact tab_step (rightS_fresh HR.out HSK.out) HD.out H2.out H3.out (by rw [htl]; exact hown1) HTW.out (HA'.out.below (hb1.mono hn)) (hb1.mono hn)
      case measure => simp [intOf]; omega
    · obtain rfl : k = s.length := by omega
      have hT := HT.out
      rw [List.take_length] at hT
      have HT' := Lib.hid hT
      clear hT
      go_wp2
      go_ret
      exact ⟨_, rfl, HT'.out, HB.out⟩
end Go.Proofs.YtpncmdlbmnmahaaGreat
/- Contracts of the replacements: of a table, and of an offset. -/
namespace Go.Proofs.YtpncmdlbmnmahaaGreat
set_option linter.unusedVariables false
set_option linter.unusedSimpArgs false
open Go.RowKit Go.Maps
section
variable {P : Program} {w : World} {ops : Array Oper} {rest : List Oper} {o : Oper} {a : Act} {Q : Exit → Act → World → Prop}
theorem wpList_look_hit (hg : o.guard = none) (m x : Operand) (t : TypeId) (hop : o.op = Op.lookup t m x true)
    (k e : TypeId) (K : Keyed P k) (ht : P.underlying t = some (.map k e)) {z : Value} (hz : (zeroValue e).run P w = .ok z w) (b n : Nat) (D : DataW Value)
    (hm : a.eval m = .map (some b)) (hown : w.ownsMap P k heldR b n D) (key : Value) (kl : Lit) (hx : a.eval x = key) (hkey : keyOf P k key = some kl) (hhas : Maps.has D kl = true) (u : Value) (hat : ∀ z, D.atKey kl z = .held u)
    (hK : wpList P ops Q rest (a.put o.dst (.tuple #[u, .bool true])) w) : wpList P ops Q (o :: rest) a w := by
  refine wpList_lookup_own_ok _ hg m x t hop k e K ht heldR hz (.held z) [] rfl b n D hm hown key kl hx hkey fun v ps hv => ?_
  rw [hat] at hv
  simp only [heldR, Option.some.injEq, Prod.mk.injEq, DataW.held.injEq] at hv
  rw [hv.1, hhas]
  exact hK
theorem wpList_look_miss (hg : o.guard = none) (m x : Operand) (t : TypeId) (hop : o.op = Op.lookup t m x true)
    (k e : TypeId) (K : Keyed P k) (ht : P.underlying t = some (.map k e)) {z : Value} (hz : (zeroValue e).run P w = .ok z w) (b n : Nat) (D : DataW Value)
    (hm : a.eval m = .map (some b)) (hown : w.ownsMap P k heldR b n D) (key : Value) (kl : Lit) (hx : a.eval x = key) (hkey : keyOf P k key = some kl) (hhas : Maps.has D kl = false)
    (hK : wpList P ops Q rest (a.put o.dst (.tuple #[z, .bool false])) w) : wpList P ops Q (o :: rest) a w := by
  refine wpList_lookup_own_ok _ hg m x t hop k e K ht heldR hz (.held z) [] rfl b n D hm hown key kl hx hkey fun v ps hv => ?_
  rw [Maps.atKey_of_not_has hhas] at hv
  simp only [heldR, Option.some.injEq, Prod.mk.injEq, DataW.held.injEq] at hv
  rw [hv.1, hhas]
  exact hK
end
theorem ofS_size {s : Sb} {n : Nat} (hn : 1 ≤ n) (h : ∀ x ∈ s, x.2.size ≤ n) (v : Int) : (ofS s v).size ≤ n := by
  induction s with
  | nil => simp [ofS, vt, T.size, T.sizes]; omega
  | cons p s ih =>
    obtain ⟨x, t⟩ := p
    rw [ofS]
    split
    · exact h (x, t) (by simp)
    · exact ih fun y hy => h y (by simp [hy])
set_option maxRecDepth 100000 in
set_option maxHeartbeats 1000000 in
theorem tabRep_any (s : Sb) (hsz : ∀ x ∈ s, x.2.size ≤ 1000000000000) (v : Int) (h1 : -9223372036854775808 ≤ v) (h2 : v ≤ 9223372036854775807) (n₀ B : Nat) (w : World) (hn : n₀ ≤ w.heap.size) (hT : TabR n₀ w B s) :
    Calls Tryz.prog 83 #[.map (some B), .int .i64 v] w (RepPost (ofS s v) w) := by
  have hos := ofS_size (n := 1000000000000) (by omega) hsz v
  have hkey := keyOf_int_mk (P := Tryz.prog) (k := 3) Tryz.underlying3 (WalkArith.wf_i64 ⟨h1, h2⟩)
  obtain ⟨D, hD, hno, hyes⟩ := hT
  cases hb : bnd s v
  · have hh := hno v hb
    have hof := ofS_unbound hb
    have hD1 := hD.alloc (tmCells 0 none 0 0)
    clear hno hyes hb hsz
    go_enter Tryz.func83, Tryz.ntmps83
    go_wp2_with (first | (at_lookup; refine wpList_look_miss (by rfl) _ _ 112 (by rfl) 3 42 keyInt Tryz.underlying112 (zeroTerm _) B s.length D (by rfl) hD1 _ _ (by rfl) hkey hh ?_) | (go_at_call 114; refine (sVariable_any v _ h1 h2).mono ?_; rintro e w3 ⟨rfl, hb3⟩; have r0 := (hb3.cell (p := ⟨w.heap.size, 0, none⟩) (by simp; omega)).trans (show _ = some (Value.int .i64 0) from by simp [go_sem]); have r1 := (hb3.cell (p := ⟨w.heap.size, 1, none⟩) (by simp; omega)).trans (show _ = some (Value.slice none 0 0) from by simp [go_sem]); have r2 := (hb3.frozen (p := ⟨w.heap.size, 0, none⟩) (by simp; omega)).trans (show _ = false from by simp [go_sem]); have r3 := (hb3.frozen (p := ⟨w.heap.size, 1, none⟩) (by simp; omega)).trans (show _ = false from by simp [go_sem])) | go_in)
    have hbb : Below w.heap.size w w3 := (((Below.refl _ w).alloc (Nat.le_refl _) _).alloc (by simp) _).trans (hb3.mono (by simp; omega))
    refine bodyPost_ret (v := tm (-1 - v) none 0 0) (by simp [results, Tryz.results83, go_sem, r0, r1]) rfl ?_
    first | rw [hof] | skip
    exact ⟨none, 0, rfl, wf_vt h1 h2, ⟨by simp [vt, T.args], by simp [maxLen], .inl rfl⟩, (hbb.setCell (p := ⟨w.heap.size, 0, none⟩) (by simp) _).setCell (p := ⟨w.heap.size, 1, none⟩) (by simp) _⟩
  · obtain ⟨hh, hw, a, c, hat, hA⟩ := hyes v hb
    generalize ofS s v = x at *
    have hD1 := hD.alloc (tmCells 0 none 0 0)
    have hB2 : Below w.heap.size w ((w.alloc (tmCells 0 none 0 0)).alloc (tmCells x.head a x.args.length c)) := ((Below.refl _ w).alloc (Nat.le_refl _) _).alloc (by simp) _
    have CC := Lib.hid (copy_any x hos n₀ a c ((w.alloc (tmCells 0 none 0 0)).alloc (tmCells x.head a x.args.length c)) (by simp; omega) hw (hA.below (hB2.mono hn)))
    have HB2 := Lib.hid hB2
    have HW := Lib.hid hw
    clear hno hyes hb hsz hA hw hB2
    go_enter Tryz.func83, Tryz.ntmps83
    go_wp2_with (first | (at_lookup; refine wpList_look_hit (by rfl) _ _ 112 (by rfl) 3 42 keyInt Tryz.underlying112 (zeroTerm _) B s.length D (by rfl) hD1 _ _ (by rfl) hkey hh (tm x.head a x.args.length c) hat ?_) | (go_at_call 113; refine CC.out.mono ?_; rintro e w3 ⟨a3, c3, rfl, hI3, hb3⟩; have r0 := (hb3.cell (p := ⟨w.heap.size, 0, none⟩) (by simp; omega)).trans (show _ = some (Value.int .i64 0) from by simp [go_sem]); have r1 := (hb3.cell (p := ⟨w.heap.size, 1, none⟩) (by simp; omega)).trans (show _ = some (Value.slice none 0 0) from by simp [go_sem]); have r2 := (hb3.frozen (p := ⟨w.heap.size, 0, none⟩) (by simp; omega)).trans (show _ = false from by simp [go_sem]); have r3 := (hb3.frozen (p := ⟨w.heap.size, 1, none⟩) (by simp; omega)).trans (show _ = false from by simp [go_sem])) | go_in)
    have hbb : Below w.heap.size w w3 := HB2.out.trans (hb3.mono HB2.out.size)
    refine bodyPost_ret (v := tm x.head a3 x.args.length c3) (by simp [results, Tryz.results83, go_sem, r0, r1]) rfl ?_
    refine ⟨a3, c3, rfl, HW.out, hI3.keep (fun b hb => ?_) (fun b hb => ⟨?_, ?_⟩), (hbb.setCell (p := ⟨w.heap.size, 0, none⟩) (by simp) _).setCell (p := ⟨w.heap.size, 1, none⟩) (by simp) _⟩
    · have h := hb.1
      simp at h
      exact (Below.heap_setCell _ _ _ _ (by show b ≠ w.heap.size; omega)).trans (Below.heap_setCell _ _ _ _ (by show b ≠ w.heap.size; omega))
    · have h := hb.1
      simp at h
      omega
    · simpa using hb.2.lt
end Go.Proofs.YtpncmdlbmnmahaaGreat

/- Contracts of checked, Apply and Shift. -/
namespace Go.Proofs.YtpncmdlbmnmahaaGreat
set_option linter.unusedVariables false
set_option linter.unusedSimpArgs false
open Go.RowKit Go.Shelf
theorem right_size {s : Sb} (h : rightS 0 s = true) : ∀ x ∈ s, x.2.size ≤ 400 := fun x hx => by
  obtain ⟨i, hi⟩ := List.getElem?_of_mem hx
  exact (check_ok (rightS_low h hi).2.2.1).1
theorem sub_bound {s : Sb} (h : rightS 0 s = true) {t : T} (ht : t.size ≤ 400) : (t.sub (ofS s)).size ≤ 160000 :=
  Nat.le_trans (T.sub_size (n := 400) (by omega) (ofS_size (by omega) (right_size h)) t) (by omega)
def goodA (s : Sb) (t : T) : Bool := rightS 0 s && decide (t.check = 0)
def appT (s : Sb) (t : T) : T := if goodA s t then endT (t.sub (ofS s)) else Z0
def appE (s : Sb) (t : T) : Int := if goodA s t then (t.sub (ofS s)).check else 1
theorem enters_tab : ∀ args W, (callFunc 83 args).run Tryz.prog W = .ok (.enter 83 args) W := enters_of Tryz.func83 (by kernel_rfl) rfl
set_option maxRecDepth 100000 in
set_option maxHeartbeats 4000000 in
theorem applyF_any (s : Sb) (hsz : ∀ x ∈ s, x.2.size ≤ 1000000000000) (t : T) (ht : t.size ≤ 1000000000000) (n₀ : Nat) (a : Option Addr) (c : Nat) (at_ : Option Addr) (ct : Nat) (w : World) (hn : n₀ ≤ w.heap.size) (hS : IsBs n₀ w s a c) (htw : (Lit.int .i64 t.head).wf = true) (hA : IsArgs n₀ w t.args at_ ct) :
    Calls Tryz.prog 60 #[.slice a s.length c, tm t.head at_ t.args.length ct] w (TEPostF n₀ (appT s t) (appE s t) w) := by
  obtain ⟨w2, hw2⟩ : ∃ w2, (w.alloc (tmCells t.head at_ t.args.length ct)).alloc (tmCells 0 none 0 0) = w2 := ⟨_, rfl⟩
  have hB2 : Below w.heap.size w w2 := by rw [← hw2]; exact ((Below.refl _ w).alloc (Nat.le_refl _) _).alloc (by simp) _
  have hs2 : w2.heap.size = w.heap.size + 2 := by rw [← hw2]; simp
  have L2 := Lib.hid (show ∀ W, Below w2.heap.size w2 W → W.cell? ⟨w.heap.size, 0, none⟩ = some (.int .i64 t.head) ∧ W.cell? ⟨w.heap.size, 1, none⟩ = some (.slice at_ t.args.length ct) ∧ W.cell? ⟨w.heap.size + 1, 0, none⟩ = some (.int .i64 0) ∧ W.cell? ⟨w.heap.size + 1, 1, none⟩ = some (.slice none 0 0) ∧ W.frozen? ⟨w.heap.size + 1, 0, none⟩ = false ∧ W.frozen? ⟨w.heap.size + 1, 1, none⟩ = false from fun W hW =>
    ⟨(hW.cell (p := ⟨w.heap.size, 0, none⟩) (by simp; omega)).trans (by rw [← hw2]; simp [go_sem]), (hW.cell (p := ⟨w.heap.size, 1, none⟩) (by simp; omega)).trans (by rw [← hw2]; simp [go_sem]), (hW.cell (p := ⟨w.heap.size + 1, 0, none⟩) (by simp; omega)).trans (by rw [← hw2]; simp [go_sem]), (hW.cell (p := ⟨w.heap.size + 1, 1, none⟩) (by simp; omega)).trans (by rw [← hw2]; simp [go_sem]), (hW.frozen (p := ⟨w.heap.size + 1, 0, none⟩) (by simp; omega)).trans (by rw [← hw2]; simp [go_sem]), (hW.frozen (p := ⟨w.heap.size + 1, 1, none⟩) (by simp; omega)).trans (by rw [← hw2]; simp [go_sem])⟩)
  have LS := Lib.hid (show ∀ W, Below w2.heap.size w2 W → IsBs n₀ W s a c ∧ IsArgs n₀ W t.args at_ ct ∧ Below w.heap.size w W ∧ n₀ ≤ W.heap.size from fun W hW => by
    have h := hB2.trans (hW.mono hB2.size)
    exact ⟨hS.below (h.mono hn), hA.below (h.mono hn), h, Nat.le_trans hn h.size⟩)
  have HTW := Lib.hid htw
  have HSZ := Lib.hid hsz
  have HS2 := Lib.hid hs2
  clear hS hA hB2 hs2 htw hsz
  go_enter Tryz.func60, Tryz.ntmps60
  go_wp2_with fail
  have ls := LS.out w2 (Below.refl _ _)
  refine (sCheck_any s HSZ.out n₀ a c w2 ls.2.2.2 ls.1).mono ?_
  clear ls hw2
  rintro e w3 ⟨rfl, hb3⟩
  by_cases q1 : rightS 0 s = true
  · rw [show errS s = 0 from by unfold errS; rw [if_pos q1]]
    obtain ⟨c0, c1, _, _, _, _⟩ := L2.out w3 hb3
    have HB3 := Lib.hid hb3
    clear hb3
    go_wp2_with fail
    clear c0 c1
    have ls := LS.out w3 HB3.out
    refine (check_any t ht n₀ at_ ct w3 ls.2.2.2 HTW.out ls.2.1).mono ?_
    clear ls
    rintro e w4 ⟨rfl, hb4⟩
    have hb4' := HB3.out.trans (hb4.mono HB3.out.size)
    clear hb4 HB3
    have HB4 := Lib.hid hb4'
    by_cases q2 : t.check = 0
    · rw [q2]
      have hga : goodA s t = true := by simp [goodA, q1, q2]
      have hT : appT s t = endT (t.sub (ofS s)) := by unfold appT; rw [if_pos hga]
      have hE : appE s t = (t.sub (ofS s)).check := by unfold appE; rw [if_pos hga]
      obtain ⟨hts, _, htg⟩ := check_ok q2
      have hxs : (t.sub (ofS s)).size ≤ 1000000000000 := Nat.le_trans (sub_bound q1 hts) (by omega)
      obtain ⟨c0, c1, r0, r1, rf0, rf1⟩ := L2.out w4 hb4'
      have HF := Lib.hid (LS.out w4 hb4').2.2.1
      have KP := Lib.hid (show ∀ W, Below w4.heap.size w4 W → W.cell? ⟨w.heap.size, 0, none⟩ = some (.int .i64 t.head) ∧ W.cell? ⟨w.heap.size, 1, none⟩ = some (.slice at_ t.args.length ct) ∧ W.cell? ⟨w.heap.size + 1, 0, none⟩ = some (.int .i64 0) ∧ W.cell? ⟨w.heap.size + 1, 1, none⟩ = some (.slice none 0 0) ∧ W.frozen? ⟨w.heap.size + 1, 0, none⟩ = false ∧ W.frozen? ⟨w.heap.size + 1, 1, none⟩ = false from fun W hW => L2.out W (HB4.out.trans (hW.mono HB4.out.size)))
      have CT := Lib.hid (show ∀ W, Below w4.heap.size w4 W → Calls Tryz.prog 82 #[.slice a s.length c] W (TabPost n₀ s W) from fun W hW => by
        have ls := LS.out W (HB4.out.trans (hW.mono HB4.out.size))
        exact tableOf_any s q1 n₀ a c W ls.2.2.2 ls.1)
      have CR := Lib.hid (show ∀ W B, Below w4.heap.size w4 W → TabR n₀ W B s → Calls Tryz.prog 81 #[tm t.head at_ t.args.length ct, .func (.func 83) #[.map (some B)] #[]] W (RepPost (t.sub (ofS s)) W) from fun W B hW hT => by
        have ls := LS.out W (HB4.out.trans (hW.mono HB4.out.size))
        exact rebuild_any _ enters_tab (.map (some B)) (ofS s) t.size t (Nat.le_refl _) ht htg n₀ at_ ct W ls.2.2.2 HTW.out ls.2.1 (fun X v hX h0 h1 => tabRep_any s HSZ.out v (by omega) (by omega) n₀ B X (Nat.le_trans ls.2.2.2 hX.size) (hT.below ls.2.2.2 hX)))
      generalize t.sub (ofS s) = x at hxs hT hE CR ⊢
      clear hb4' hga hts htg
      have hD4 : Below w4.heap.size w4 w4.drew := (Below.refl _ _).drew
      go_wp2
      go_region_law (first
        | (go_simp; go_at_call 82; refine (CT.out _ hD4).mono ?_; rintro e w5 ⟨B, rfl, hT5, hb5⟩; have hB5 : Below w4.heap.size w4 w5 := ⟨hb5.os, hb5.tape, hb5.output, hb5.size, hb5.block⟩; obtain ⟨c5, c5', _, _, _, _⟩ := KP.out w5 hB5)
        | (go_simp; go_at_call 81; refine (CR.out _ B hB5 hT5).mono ?_; rintro e w6 ⟨a6, c6, rfl, hw6, hI6, hb6⟩; have hB6 : Below w4.heap.size w4 w6 := hB5.trans (hb6.mono hB5.size))
        | (go_simp; go_at_call 80; refine (checked_any x hxs _ a6 c6 w6 (fun b h => h.2) hw6 hI6).mono ?_; rintro e w7 ⟨a7, c7, rfl, hw7, hA7, hb7⟩; have hB7 : Below w4.heap.size w4 w7 := hB6.trans (hb7.mono hB6.size); obtain ⟨_, _, s0, s1, sf0, sf1⟩ := KP.out w7 hB7))
      all_goals
        go_wp2
        refine bodyPost_ret (v := .tuple #[tm (endT x).head a7 (endT x).args.length c7, .int .i64 x.check]) (by simp [results, Tryz.results60, go_sem, s0, s1]) rfl ?_
        first | rw [hT, hE] | skip
        have hw7' : Below w.heap.size w w7 := HF.out.trans (hB7.mono HF.out.size)
        have hz7 : w.heap.size + 2 ≤ w7.heap.size := by have h1 := HB4.out.size; have h2 := hB7.size; have := HS2.out; omega
        have hz5 : w.heap.size + 2 ≤ w5.heap.size := by have h1 := HB4.out.size; have h2 := hB5.size; have := HS2.out; omega
        have hz67 := hb7.size
        refine ⟨a7, c7, rfl, hw7, (hA7.keep (ok' := fun b => (b < n₀ ∨ w.heap.size ≤ b) ∧ b < ((w7.setCell ⟨w.heap.size + 1, 0, none⟩ (.int .i64 (endT x).head)).setCell ⟨w.heap.size + 1, 1, none⟩ (.slice a7 (endT x).args.length c7)).heap.size) (fun b hb => (Below.heap_setCell _ _ _ _ (by have := hb.1; show b ≠ w.heap.size + 1; omega)).trans (Below.heap_setCell _ _ _ _ (by have := hb.1; show b ≠ w.heap.size + 1; omega))) (fun b hb => by have := hb.1; have := hb.2; simp; omega)), (hw7'.setCell (p := ⟨w.heap.size + 1, 0, none⟩) (by simp) _).setCell (p := ⟨w.heap.size + 1, 1, none⟩) (by simp) _⟩
    · have hga : goodA s t = false := by simp [goodA, q2]
      have hT : appT s t = Z0 := by unfold appT; rw [hga]; rfl
      have hE : appE s t = 1 := by unfold appE; rw [hga]; rfl
      obtain ⟨_, _, s0, s1, sf0, sf1⟩ := L2.out w4 hb4'
      have HF := Lib.hid (LS.out w4 hb4').2.2.1
      generalize hk : t.check = k at q2 ⊢
      have hne : (k == 0) = false := by simpa using q2
      clear hb4' hk
      go_wp2
      refine bodyPost_ret (v := .tuple #[tm 0 none 0 0, .int .i64 1]) (by simp [results, Tryz.results60, go_sem, s0, s1]) rfl ?_
      first | rw [hT, hE] | skip
      exact ⟨none, 0, rfl, wf_z0, isArgsp_z _ _, (HF.out.setCell (p := ⟨w.heap.size + 1, 0, none⟩) (by simp) _).setCell (p := ⟨w.heap.size + 1, 1, none⟩) (by simp) _⟩
  · have hga : goodA s t = false := by simp [goodA, q1]
    have hT : appT s t = Z0 := by unfold appT; rw [hga]; rfl
    have hE : appE s t = 1 := by unfold appE; rw [hga]; rfl
    rw [show errS s = 1 from by unfold errS; rw [if_neg q1]]
    obtain ⟨_, _, s0, s1, sf0, sf1⟩ := L2.out w3 hb3
    have HF := Lib.hid (LS.out w3 hb3).2.2.1
    clear hb3
    go_wp2
    refine bodyPost_ret (v := .tuple #[tm 0 none 0 0, .int .i64 1]) (by simp [results, Tryz.results60, go_sem, s0, s1]) rfl ?_
    first | rw [hT, hE] | skip
    exact ⟨none, 0, rfl, wf_z0, isArgsp_z _ _, (HF.out.setCell (p := ⟨w.heap.size + 1, 0, none⟩) (by simp) _).setCell (p := ⟨w.heap.size + 1, 1, none⟩) (by simp) _⟩
end Go.Proofs.YtpncmdlbmnmahaaGreat

/- Contract of lit's Apply. -/
namespace Go.Proofs.YtpncmdlbmnmahaaGreat
set_option linter.unusedVariables false
set_option linter.unusedSimpArgs false
open Go.RowKit
def apK (s : Sb) (x : LV) : Int := if appE s x.l = 0 then appE s x.r else appE s x.l
def apN (s : Sb) (x : LV) : Bool := if apK s x = 0 then x.n else false
def apL (s : Sb) (x : LV) : T := if apK s x = 0 then appT s x.l else .node 0 []
def apR (s : Sb) (x : LV) : T := if apK s x = 0 then appT s x.r else .node 0 []
theorem ap_bad {s : Sb} {x : LV} {k : Int} (h : apK s x = k) (hk : k ≠ 0) : apN s x = false ∧ apL s x = .node 0 [] ∧ apR s x = .node 0 [] ∧ apK s x = k := by
  subst h
  exact ⟨by unfold apN; rw [if_neg hk], by unfold apL; rw [if_neg hk], by unfold apR; rw [if_neg hk], rfl⟩
theorem ap_ok {s : Sb} {x : LV} (h : apK s x = 0) : apN s x = x.n ∧ apL s x = appT s x.l ∧ apR s x = appT s x.r ∧ apK s x = 0 :=
  ⟨by unfold apN; rw [if_pos h], by unfold apL; rw [if_pos h], by unfold apR; rw [if_pos h], h⟩
theorem appT_small9 (s : Sb) (t : T) : (appT s t).size ≤ 1000000000000 := by
  unfold appT
  by_cases hg : goodA s t = true
  · rw [if_pos hg]
    have := hg
    simp only [goodA, Bool.and_eq_true, decide_eq_true_eq] at this
    have h1 := sub_bound this.1 (check_ok this.2).1
    unfold endT
    by_cases hc : (t.sub (ofS s)).check = 0
    · rw [if_pos hc]; omega
    · rw [if_neg hc]; simp [Z0, T.size, T.sizes]
  · rw [if_neg hg]; simp [Z0, T.size, T.sizes]
theorem ap_size (s : Sb) (x : LV) : (apL s x).size ≤ 1000000000000 ∧ (apR s x).size ≤ 1000000000000 := by
  by_cases h : apK s x = 0
  · obtain ⟨_, h1, h2, _⟩ := ap_ok h
    rw [h1, h2]
    exact ⟨appT_small9 _ _, appT_small9 _ _⟩
  · obtain ⟨_, h1, h2, _⟩ := ap_bad rfl h
    rw [h1, h2]
    exact ⟨by simp [T.size, T.sizes], by simp [T.size, T.sizes]⟩
/-- Terms that don't reach a block: they last, whatever becomes of it. -/
def Kne (b0 : Nat) (u : World) (ts : List T) (a : Option Addr) (c : Nat) : Prop := ∀ X : World, u.heap.size ≤ X.heap.size → (∀ b, b ≠ b0 → b < u.heap.size → X.heap[b]? = u.heap[b]?) → IsArgs X.heap.size X ts a c
theorem kne_of {n₀ m b0 : Nat} {u : World} {ts : List T} {a : Option Addr} {c : Nat} (h : IsArgsp (fun b => (b < n₀ ∨ m ≤ b) ∧ b < u.heap.size) u ts a c) (h1 : n₀ ≤ b0) (h2 : b0 < m) : Kne b0 u ts a c := fun X hs hb =>
  (h.keep (ok' := fun b => b < X.heap.size) (fun b hk => hb b (by have := hk.1; omega) hk.2) (fun b hk => Nat.lt_of_lt_of_le hk.2 hs)).toArgs (fun _ h => h)
theorem Kne.mv {b0 : Nat} {u v : World} {ts : List T} {a : Option Addr} {c : Nat} (h : Kne b0 u ts a c) (hb : Below u.heap.size u v) : Kne b0 v ts a c := fun X hs hx =>
  h X (Nat.le_trans hb.size hs) fun b h1 h2 => (hx b h1 (Nat.lt_of_lt_of_le h2 hb.size)).trans (hb.block b h2)
theorem Kne.sets {b : Nat} {u : World} {ts : List T} {a : Option Addr} {c : Nat} (h : Kne b u ts a c) (v0 v1 v2 v3 v4 : Value) :
    IsArgs (((((u.setCell ⟨b, 0, none⟩ v0).setCell ⟨b, 1, none⟩ v1).setCell ⟨b, 2, none⟩ v2).setCell ⟨b, 3, none⟩ v3).setCell ⟨b, 4, none⟩ v4).heap.size (((((u.setCell ⟨b, 0, none⟩ v0).setCell ⟨b, 1, none⟩ v1).setCell ⟨b, 2, none⟩ v2).setCell ⟨b, 3, none⟩ v3).setCell ⟨b, 4, none⟩ v4) ts a c :=
  h _ (by simp) fun k hne h2 => by
    rw [Below.heap_setCell _ _ _ _ hne, Below.heap_setCell _ _ _ _ hne, Below.heap_setCell _ _ _ _ hne, Below.heap_setCell _ _ _ _ hne, Below.heap_setCell _ _ _ _ hne]
set_option maxRecDepth 100000 in
set_option maxHeartbeats 8000000 in
theorem litApply_any (s : Sb) (hsz : ∀ x ∈ s, x.2.size ≤ 1000000000000) (x : LV) (hx : x.sz) (n₀ : Nat) (a : Option Addr) (c : Nat) (w : World) (hn : n₀ ≤ w.heap.size) (hS : IsBs n₀ w s a c) (hX : IsLv n₀ w x) :
    Calls Tryz.prog 38 #[.slice a s.length c, x.v] w (LePost (apN s x) (apL s x) (apR s x) (apK s x) w) := by
  have hS0 := hS.mono hn
  have hX0 := hX.mono hn
  have C1 := Lib.hid (fun (W : World) (hW : Below w.heap.size w W) => applyF_any s hsz x.l hx.1 w.heap.size a c x.pa x.ca W hW.size (hS0.below hW) hX0.lw (hX0.below hW).la)
  have C2 := Lib.hid (fun (W : World) (hW : Below w.heap.size w W) => applyF_any s hsz x.r hx.2 w.heap.size a c x.pb x.cb W hW.size (hS0.below hW) hX0.rw (hX0.below hW).ra)
  have d0 := ((Later.below (Below.refl _ w)).pushB (Below.refl _ _) x).pushB (Below.refl _ _) LV.zero
  simp only [heap_alloc_size] at d0
  have D := Lib.hid d0
  clear d0 hS hX hS0 hX0 hsz hx
  have hs1 : ((w.alloc x.obj).alloc LV.zero.obj).heap.size = w.heap.size + 2 := by simp
  obtain ⟨w1, hw1⟩ : ∃ w1, (w.alloc x.obj).alloc LV.zero.obj = w1 := ⟨_, rfl⟩
  rw [hw1] at D hs1
  have hw1' : (w.alloc x.obj).alloc (.cells #[.bool false, .int .i64 0, .slice none 0 0, .int .i64 0, .slice none 0 0] 44) = w1 := hw1
  have HW1 := Lib.hid hw1'
  clear hw1 hw1'
  go_enter Tryz.func38, Tryz.ntmps38
  go_wp2_with fail
  rw [HW1.out]
  clear HW1
  refine (C1.out w1 D.out.now.2.2).mono ?_
  rintro e w2 ⟨a2, c2, rfl, hwf2, hA2, hb2⟩
  have hs2 := hb2.size
  obtain ⟨w3, hw3⟩ : ∃ w3, w2.alloc (tmCells (appT s x.l).head a2 (appT s x.l).args.length c2) = w3 := ⟨_, rfl⟩
  have hb3 : Below w2.heap.size w2 w3 := by rw [← hw3]; exact (Below.refl _ _).alloc (Nat.le_refl _) _
  have hs3 := hb3.size
  have d3 := (D.out.mv hb2).push (Below.refl _ _) (appT s x.l).head a2 (appT s x.l).args.length c2
  rw [hw3] at d3
  have D3 := Lib.hid d3
  have KA := Lib.hid ((kne_of (b0 := w.heap.size + 1) hA2 (by omega) (by omega)).mv hb3)
  have HWF2 := Lib.hid hwf2
  clear d3 hb2 hb3 hA2 hwf2 D C1
  by_cases h1 : appE s x.l = 0
  case neg =>
    obtain ⟨k, hk⟩ : ∃ k, appE s x.l = k := ⟨_, rfl⟩
    have HE := Lib.hid (ap_bad (s := s) (x := x) (k := k) (by unfold apK; rw [if_neg h1]; exact hk) (by rw [← hk]; exact h1))
    have HQ := Lib.hid D3.out.now.2.2.2
    have hz := D3.out.now.2.1
    obtain ⟨z0, z1, z2, z3, z4⟩ := hz.lc
    obtain ⟨q0, q1, q2, q3, q4⟩ := hz.lf
    simp only [LV.zero, T.head, T.args, List.length_nil] at z0 z1 z2 z3 z4
    clear hz
    rw [hk] at h1 ⊢
    have h2 : (k != 0) = true := by simpa using h1
    clear h1 hk D3 KA
    go_wp2
    refine bodyPost_ret (v := .tuple #[LV.zero.v, .int .i64 k]) (by simp [results, Tryz.results38, go_sem, z0, z1, z2, z3, z4, LV.zero, T.head, T.args]) rfl ?_
    exact ⟨LV.zero, by rw [HE.out.2.2.2], HE.out.1.symm, HE.out.2.1.symm, HE.out.2.2.1.symm, lv_zero _ _, bl_sets HQ.out (by omega) _ _ _ _ _⟩
  have H1 := Lib.hid h1
  rw [h1]
  clear h1
  obtain ⟨x0, x1, x2, x3, x4⟩ := D3.out.now.2.2.1.lc
  go_wp2_with fail
  clear x0 x1 x2 x3 x4
  refine (C2.out w3 D3.out.now.2.2.2).mono ?_
  rintro e w4 ⟨a4, c4, rfl, hwf4, hA4, hb4⟩
  have hs4 := hb4.size
  obtain ⟨w5, hw5⟩ : ∃ w5, w4.alloc (tmCells (appT s x.r).head a4 (appT s x.r).args.length c4) = w5 := ⟨_, rfl⟩
  have hb5 : Below w4.heap.size w4 w5 := by rw [← hw5]; exact (Below.refl _ _).alloc (Nat.le_refl _) _
  have hs5 := hb5.size
  have d5 := (D3.out.mv hb4).push (Below.refl _ _) (appT s x.r).head a4 (appT s x.r).args.length c4
  rw [hw5] at d5
  have D5 := Lib.hid d5
  have KB := Lib.hid ((kne_of (b0 := w.heap.size + 1) hA4 (by omega) (by omega)).mv hb5)
  have KA5 := Lib.hid ((KA.out.mv hb4).mv hb5)
  have HWF4 := Lib.hid hwf4
  clear d5 hb4 hb5 hA4 hwf4 D3 C2 KA hw3
  have hz := D5.out.now.2.2.1
  have hxx := D5.out.now.2.2.2.1
  obtain ⟨z0, z1, z2, z3, z4⟩ := hz.lc
  obtain ⟨q0, q1, q2, q3, q4⟩ := hz.lf
  simp only [LV.zero, T.head, T.args, List.length_nil] at z0 z1 z2 z3 z4
  have HQ := Lib.hid D5.out.now.2.2.2.2
  by_cases h2 : appE s x.r = 0
  case neg =>
    obtain ⟨k, hk⟩ : ∃ k, appE s x.r = k := ⟨_, rfl⟩
    have HE := Lib.hid (ap_bad (s := s) (x := x) (k := k) (by unfold apK; rw [if_pos H1.out]; exact hk) (by rw [← hk]; exact h2))
    clear hz hxx
    rw [hk] at h2 ⊢
    have h3 : (k != 0) = true := by simpa using h2
    clear h2 hk D5 KB KA5
    go_wp2
    refine bodyPost_ret (v := .tuple #[LV.zero.v, .int .i64 k]) (by simp [results, Tryz.results38, go_sem, z0, z1, z2, z3, z4, LV.zero, T.head, T.args]) rfl ?_
    exact ⟨LV.zero, by rw [HE.out.2.2.2], HE.out.1.symm, HE.out.2.1.symm, HE.out.2.2.1.symm, lv_zero _ _, bl_sets HQ.out (by omega) _ _ _ _ _⟩
  have HE := Lib.hid (ap_ok (s := s) (x := x) (by unfold apK; rw [if_pos H1.out]; exact h2))
  rw [h2]
  clear h2
  obtain ⟨x0, _, _, _, _⟩ := hxx.lc
  obtain ⟨⟨u0, u1⟩, ⟨v0, v1⟩, _⟩ := D5.out.now
  clear hz hxx D5
  generalize appT s x.l = y1 at HE HWF2 KA5 v0 v1 ⊢
  generalize appT s x.r = y2 at HE HWF4 KB u0 u1 hw5 ⊢
  go_wp2
  refine bodyPost_ret (v := .tuple #[(LV.mk x.n y1 y2 a2 c2 a4 c4).v, .int .i64 0]) (by simp [results, Tryz.results38, go_sem, z0, z1, z2, z3, z4]) rfl ?_
  exact ⟨LV.mk x.n y1 y2 a2 c2 a4 c4, by rw [HE.out.2.2.2], HE.out.1.symm, HE.out.2.1.symm, HE.out.2.2.1.symm, ⟨HWF2.out, HWF4.out, KA5.out.sets _ _ _ _ _, KB.out.sets _ _ _ _ _⟩, bl_sets HQ.out (by omega) _ _ _ _ _⟩
end Go.Proofs.YtpncmdlbmnmahaaGreat

/- Wp0: split off Wp1: variables of good terms are low. -/
namespace Go.Proofs.YtpncmdlbmnmahaaGreat
set_option linter.unusedVariables false
set_option linter.unusedSimpArgs false
open Go.RowKit
theorem vars_low {t : T} (hb : bad (T.subs 1 t) = false) : ∀ h ∈ t.hds, h < 0 → -1 - h ≤ 255 := by
  have aux : ∀ (N : Nat) (t : T), t.size ≤ N → bad (T.subs 1 t) = false → ∀ h ∈ t.hds, h < 0 → -1 - h ≤ 255 := by
    intro N
    induction N with
    | zero => intro t ht; have := T.size_pos t; omega
    | succ N ih =>
      intro t ht hb h hm hn
      rw [T.hds_eq] at hm
      rcases List.mem_cons.1 hm with rfl | hm
      · have := good_head hb
        simp [okB, hn] at this
        omega
      · have : ∃ s ∈ t.args, h ∈ s.hds := by
          clear ht ih hb
          generalize t.args = ts at hm
          induction ts with
          | nil => simp [T.hdsL] at hm
          | cons s ts ih2 =>
            rcases List.mem_append.1 hm with hm | hm
            · exact ⟨s, List.mem_cons_self .., hm⟩
            · obtain ⟨x, hx, hy⟩ := ih2 hm
              exact ⟨x, List.mem_cons_of_mem _ hx, hy⟩
        obtain ⟨s, hs, hsm⟩ := this
        obtain ⟨k, hk⟩ := List.getElem?_of_mem hs
        exact ih s (by have := size_mem hs; have := T.size_eq t; omega) (good_arg hb hk) h hsm hn
  exact aux t.size t (Nat.le_refl _) hb
end Go.Proofs.YtpncmdlbmnmahaaGreat

/- Terms put, and how much they weigh: plain facts (split off Wp2). -/
namespace Go.Proofs.YtpncmdlbmnmahaaGreat
set_option linter.unusedVariables false
set_option linter.unusedSimpArgs false
open Go.RowKit
/-- What is put for a variable that stands in a term is a part of the term put. -/
theorem put_part {g : Sg} (f : Int → T) : ∀ (N : Nat) (t : T), t.size ≤ N → bad (T.subs 1 t) = false → OkT g (t.sub f) → ∀ h ∈ t.hds, h < 0 → OkT g (f (-1 - h)) := by
  intro N
  induction N with
  | zero => intro t ht; have := T.size_pos t; omega
  | succ N ih =>
    intro t ht hb hok h hm hn
    by_cases q : t.head < 0
    · have ha := good_var hb q
      rw [T.hds_eq, ha] at hm
      simp [T.hdsL] at hm
      rw [T.sub_neg q] at hok
      rw [hm]; exact hok
    · rw [T.hds_eq] at hm
      rcases List.mem_cons.1 hm with rfl | hm
      · exact absurd hn q
      · rw [T.sub_pos q] at hok
        have : ∃ s ∈ t.args, h ∈ s.hds := by
          clear hok ht ih hb q
          generalize t.args = ts at hm
          induction ts with
          | nil => simp [T.hdsL] at hm
          | cons s ts ih2 =>
            rcases List.mem_append.1 hm with hm | hm
            · exact ⟨s, List.mem_cons_self .., hm⟩
            · obtain ⟨x, hx, hy⟩ := ih2 hm
              exact ⟨x, List.mem_cons_of_mem _ hx, hy⟩
        obtain ⟨s, hs, hsm⟩ := this
        obtain ⟨k, hk⟩ := List.getElem?_of_mem hs
        refine ih s (by have := size_mem hs; have := T.size_eq t; omega) (good_arg hb hk) (hok.arg ?_) h hsm hn
        simp only [T.args_node]
        exact List.mem_map.2 ⟨s, hs, rfl⟩
theorem sumA_le {f : Int → Int} : ∀ {L : List Int}, (∀ h ∈ L, f h ≤ 1000) → sumA f L ≤ 1000 * L.length
  | [], _ => by simp [sumA]
  | h :: L, hl => by
    have h1 := sumA_le (L := L) (fun x hx => hl x (List.mem_cons_of_mem _ hx))
    have h2 := hl h (List.mem_cons_self ..)
    simp only [sumA, List.length_cons]; omega
theorem wt_le {g : Sg} {t : T} (hr : rightG g = true) (h : OkT g t) : wtT g t ≤ 400000 := by
  have h1 := sumA_le (f := wo g) (L := t.hds) (fun x hx => (wo_bound hr (h.heads x hx)).2)
  rw [sumA_hds, T.hds_length] at h1
  have := (check_ok h.1).1
  omega
end Go.Proofs.YtpncmdlbmnmahaaGreat
