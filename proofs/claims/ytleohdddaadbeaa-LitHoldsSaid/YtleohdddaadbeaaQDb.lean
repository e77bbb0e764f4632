/- QDb: joined of SO0, Tb0. -/
import Derived.Test.YtleohdddaadbeaaQDa
import Derived.Test.YtleohdddaadbeaaCopy
import Derived.Maps.OwnSet
/- SO0: of SOf, what names no reference. -/
/- Contracts of Of, of the program and of the reference. -/
namespace Go.Proofs.Ytleohdddaadbeaa
set_option linter.unusedVariables false
set_option linter.unusedSimpArgs false
open Go.RowKit

def OfPost (n₀ : Nat) (x : T) (w : World) (e : Ending) (w' : World) : Prop :=
  ∃ a c, e = .returned (tm x.head a x.args.length c) ∧ (Lit.int .i64 x.head).wf = true ∧ IsArgs n₀ w' x.args a c ∧ Below w.heap.size w w'
theorem wf_vt {v : Int} (h1 : -9223372036854775808 ≤ v) (h2 : v ≤ 9223372036854775807) : (Lit.int .i64 (vt v).head).wf = true :=
  WalkArith.wf_i64 ⟨by show -9223372036854775808 ≤ -1 - v; omega, by show -1 - v ≤ 9223372036854775807; omega⟩
def OfI (s : Sb) (v : Int) (w w1 : World) (i : Value) (wr : World) : Prop := ∃ k : Nat, k ≤ s.length ∧ i = .int .i64 k ∧ ofS s v = ofS (s.drop k) v ∧ Below (w.heap.size + 1) w1 wr

def CkI (s : Sb) (w : World) (l i : Value) (wr : World) : Prop := ∃ (k : Nat) (z : Int), k ≤ s.length ∧ i = .int .i64 k ∧ l = .int .i64 z ∧ 0 ≤ z ∧ z ≤ 256 ∧ rightS 0 s = rightS z (s.drop k) ∧ Below w.heap.size w wr
def errS (s : Sb) : Int := if rightS 0 s then 0 else 1

set_option maxRecDepth 100000 in
set_option maxHeartbeats 1000000 in
theorem sCheck_any (s : Sb) (hsz : ∀ x ∈ s, x.2.size ≤ 1000000000000) (n₀ : Nat) (a : Option Addr) (c : Nat) (w : World) (hn : n₀ ≤ w.heap.size) (hS : IsBs n₀ w s a c) :
    Calls Try.prog 54 #[.slice a s.length c] w fun e w' => e = .returned (.int .i64 (errS s)) ∧ Below w.heap.size w w' := by
  have hl : s.length ≤ c ∧ c ≤ maxLen := ⟨hS.1, hS.2.1⟩
  unfold maxLen at hl
  obtain ⟨hl1, hl2⟩ := hl
  have HS := Lib.hid hS
  have HZ := Lib.hid hsz
  clear hS hsz
  go_enter Try.func54, Try.ntmps54
  go_wp2
  go_loopw [3, 8] (fun l i wr => CkI s w l i wr) (fun _ i _ => s.length - (intOf i).toNat)
  case atStart => exact ⟨0, 0, Nat.zero_le _, rfl, rfl, by omega, by omega, rfl, Below.refl _ _⟩
  case round =>
    obtain ⟨k, z, hk, rfl, rfl, hz0, hz1, hrt, hB⟩ := hrel
    have HR := Lib.hid hrt
    have HB := Lib.hid hB
    have hbz := hB.size
    clear hrt hB
    by_cases hlt : k < s.length
    · obtain ⟨b, o, x, t, a', c', rfl, hbn, hsk, hxw, htw, hc0, hc1, hc2, hA'⟩ := (HS.out.below (HB.out.mono hn)).elem (i := k) hlt
      have hk0 : (0 : Int) ≤ (k : Int) := Int.natCast_nonneg _
      have hk1 : (k : Int) < (s.length : Int) := by omega
      have HSK := Lib.hid (rightS_step (l := z) hsk)
      have hts : t.size ≤ 1000000000000 := HZ.out (x, t) (List.mem_of_getElem? hsk)
      have HTW := Lib.hid htw
      obtain ⟨hx1, hx2⟩ := wf_low hxw
      have hbw : b < wr.heap.size := by omega
      obtain ⟨w2, hw2⟩ : ∃ w2, wr.alloc (.cells #[.int .i64 x, .int .i64 t.head, .slice a' t.args.length c'] 58) = w2 := ⟨_, rfl⟩
      have hb2 : Below wr.heap.size wr w2 := by rw [← hw2]; exact (Below.refl _ _).alloc (Nat.le_refl _) _
      have L2 := Lib.hid (show ∀ W, Below w2.heap.size w2 W → W.cell? ⟨wr.heap.size, 0, none⟩ = some (.int .i64 x) ∧ W.cell? ⟨wr.heap.size, 1, none⟩ = some (.int .i64 t.head) ∧ W.cell? ⟨wr.heap.size, 2, none⟩ = some (.slice a' t.args.length c') from fun W hW =>
        ⟨(hW.cell (p := ⟨wr.heap.size, 0, none⟩) (by rw [← hw2]; simp)).trans (by rw [← hw2]; simp [go_sem]), (hW.cell (p := ⟨wr.heap.size, 1, none⟩) (by rw [← hw2]; simp)).trans (by rw [← hw2]; simp [go_sem]), (hW.cell (p := ⟨wr.heap.size, 2, none⟩) (by rw [← hw2]; simp)).trans (by rw [← hw2]; simp [go_sem])⟩)
      have HB2 := Lib.hid (HB.out.trans (hb2.mono hbz))
      have hAw := hA'.below (hb2.mono (by omega))
      have HA' := Lib.hid (show IsArgs w2.heap.size w2 t.args a' c' from hAw.mono (by have := hb2.size; omega))
      clear hsk htw hxw hA' hAw hb2
      by_cases q1 : x < z
      · have hd : errS s = 1 := by unfold errS; rw [HR.out, HSK.out, decide_eq_false (show ¬ z ≤ x from by omega)]; simp
        have HF := Lib.hid (show ∀ o, Below w.heap.size w (wr.alloc o) from fun o => HB.out.alloc hbz _)
        clear hw2 L2
        go_wp2
        go_ret
        exact ⟨by first | (rw [hd]; rfl) | rfl, HF.out _⟩
      by_cases q2 : 255 < x
      · have hd : errS s = 1 := by unfold errS; rw [HR.out, HSK.out, decide_eq_false (show ¬ x ≤ 255 from by omega)]; simp
        have HF := Lib.hid (show ∀ o, Below w.heap.size w (wr.alloc o) from fun o => HB.out.alloc hbz _)
        clear hw2 L2
        go_wp2
        go_ret
        exact ⟨by first | (rw [hd]; rfl) | rfl, HF.out _⟩
      obtain ⟨d0, d1, d2⟩ := L2.out w2 (Below.refl _ _)
      go_wp2_with fail
      clear hw2 hc0 hc1 hc2 d0 d1 d2
      refine (check_any t hts w2.heap.size a' c' w2 (Nat.le_refl _) HTW.out HA'.out).mono ?_
      rintro e w3 ⟨rfl, hb3⟩
      have HB3 := Lib.hid (HB2.out.trans (hb3.mono HB2.out.size))
      obtain ⟨d0, d1, d2⟩ := L2.out w3 hb3
      by_cases q3 : t.check = 0
      · rw [q3]
        go_wp2_with fail
        clear d0 d1 d2
        refine (sIsVar_any t.head a' t.args.length c' x w3 hx1 hx2).mono ?_
        rintro e w4 ⟨rfl, hb4⟩
        have HB4 := Lib.hid (HB3.out.trans (hb4.mono HB3.out.size))
        obtain ⟨d0, d1, d2⟩ := L2.out w4 (hb3.trans (hb4.mono hb3.size))
        clear hb3 hb4
        by_cases q4 : t.head = -1 - x
        · have hd : errS s = 1 := by unfold errS; rw [HR.out, HSK.out, decide_eq_false (show ¬ t.head ≠ -1 - x from fun h => h q4)]; simp
          rw [decide_eq_true q4]
          go_wp2
          go_ret
          exact ⟨by first | (rw [hd]; rfl) | rfl, HB4.out⟩
        · rw [decide_eq_false q4]
          go_wp2
          go_roundw
          case rel =>
            refine ⟨k + 1, x + 1, by omega, by go_num, rfl, by omega, by omega, ?_, HB4.out⟩
            rw [HR.out, HSK.out, decide_eq_true (show z ≤ x from by omega), decide_eq_true (show x ≤ 255 from by omega), decide_eq_true q3, decide_eq_true (show t.head ≠ -1 - x from q4)]
            simp
          case measure => simp [intOf]; omega
      · have hd : errS s = 1 := by unfold errS; rw [HR.out, HSK.out, decide_eq_false q3]; simp
        have hne : (t.check == 0) = false := by simpa using q3
        clear hb3
        go_wp2
        go_ret
        exact ⟨by first | (rw [hd]; rfl) | rfl, HB3.out⟩
    · have hd : errS s = 0 := by unfold errS; rw [HR.out, List.drop_of_length_le (by omega)]; rfl
      go_wp2
      go_ret
      exact ⟨by first | (rw [hd]; rfl) | rfl, HB.out⟩

end Go.Proofs.Ytleohdddaadbeaa

/- Tb0: of Tab, without offsets. -/
/- Contracts of tableOf (a map) and of its method replacement. -/
namespace Go.Proofs.Ytleohdddaadbeaa
set_option linter.unusedVariables false
set_option linter.unusedSimpArgs false
open Go.RowKit Go.Maps

/-- Elements of maps, read as they are. -/
def heldR (v : Value) : Option (DataW Value × List MemPlace) := some (.held v, [])
theorem keyInt : Keyed Try.prog 3 := int_keyed Try.underlying3
theorem zeroTerm (w : World) : (zeroValue 25).run Try.prog w = .ok (tm 0 none 0 0) w := by kernel_rfl
theorem run_makeTable (n : Int) (w : World) : (Instr.makeMap 86 (some (.int .i64 n))).run Try.prog w = .ok (.map (some w.heap.size)) (w.alloc (.map #[] 0)) := by
  simp [Instr.makeMap, run_underlying Try.underlying86, asInt, asIntOf, Result.andThen]

def bnd (s : Sb) (v : Int) : Bool := s.any (fun p => decide (p.1 = v))
theorem bnd_snoc (s : Sb) (x : Int) (t : T) (v : Int) : bnd (s ++ [(x, t)]) v = (bnd s v || decide (x = v)) := by simp [bnd]
theorem ofS_unbound {s : Sb} {v : Int} (h : bnd s v = false) : ofS s v = vt v := by
  induction s with
  | nil => rfl
  | cons p s ih =>
    obtain ⟨x, t⟩ := p
    simp only [bnd, List.any_cons, Bool.or_eq_false_iff, decide_eq_false_iff_not] at h
    rw [ofS, if_neg h.1]
    exact ih h.2
theorem ofS_snoc (s : Sb) (x : Int) (t : T) (v : Int) : ofS (s ++ [(x, t)]) v = if bnd s v then ofS s v else if x = v then t else vt v := by
  induction s with
  | nil => simp [bnd, ofS]
  | cons p s ih =>
    obtain ⟨y, u⟩ := p
    simp only [List.cons_append, ofS, bnd, List.any_cons]
    by_cases h : y = v
    · simp [h]
    · simp only [if_neg h, decide_eq_false h, Bool.false_or]
      exact ih

theorem rightS_low {s : Sb} : ∀ {l : Int}, rightS l s = true → ∀ {i : Nat} {x : Int × T}, s[i]? = some x → l ≤ x.1 ∧ x.1 ≤ 255 ∧ x.2.check = 0 ∧ x.2.head ≠ -1 - x.1 := by
  induction s with
  | nil => intro l _ i x hx; simp at hx
  | cons p s ih =>
    intro l h i x hx
    obtain ⟨y, u⟩ := p
    simp only [rightS, Bool.and_eq_true, decide_eq_true_iff] at h
    cases i with
    | zero => simp at hx; subst hx; exact ⟨h.1.1.1.1, h.1.1.1.2, h.1.1.2, h.1.2⟩
    | succ i =>
      have h2 := ih h.2 (i := i) (x := x) (by simpa using hx)
      exact ⟨by have := h.1.1.1.1; omega, h2.2⟩
theorem rightS_lt {s : Sb} : ∀ {l : Int}, rightS l s = true → ∀ {i j : Nat} {x y : Int × T}, i < j → s[i]? = some x → s[j]? = some y → x.1 < y.1 := by
  induction s with
  | nil => intro l _ i j x y _ hx; simp at hx
  | cons p s ih =>
    intro l h i j x y hij hx hy
    obtain ⟨z, u⟩ := p
    simp only [rightS, Bool.and_eq_true, decide_eq_true_iff] at h
    cases j with
    | zero => omega
    | succ j =>
      have hy' : s[j]? = some y := by simpa using hy
      cases i with
      | zero =>
        simp at hx; subst hx
        have := (rightS_low h.2 hy').1
        show z < y.1
        omega
      | succ i => exact ih h.2 (i := i) (j := j) (by omega) (by simpa using hx) hy'
theorem rightS_fresh {s : Sb} {l : Int} (h : rightS l s = true) {k : Nat} {x : Int} {t : T} (hk : s[k]? = some (x, t)) : bnd (s.take k) x = false := by
  simp only [bnd, List.any_eq_false, decide_eq_true_eq]
  intro p hp e
  obtain ⟨i, hi⟩ := List.getElem?_of_mem hp
  have hik : i < k := by
    have := (List.getElem?_eq_some_iff.1 hi).1
    simp at this
    omega
  rw [List.getElem?_take, if_pos hik] at hi
  have := rightS_lt h hik hi hk
  simp at this
  omega

/-- The map in block B has what s puts for its variables. -/
def TabR (n₀ : Nat) (W : World) (B : Nat) (s : Sb) : Prop :=
  ∃ D : DataW Value, W.ownsMap Try.prog 3 heldR B s.length D ∧ (∀ v, bnd s v = false → Maps.has D (.int .i64 v) = false) ∧
    (∀ v, bnd s v = true → Maps.has D (.int .i64 v) = true ∧ (Lit.int .i64 (ofS s v).head).wf = true ∧ ∃ a c, (∀ z, D.atKey (.int .i64 v) z = .held (tm (ofS s v).head a (ofS s v).args.length c)) ∧ IsArgs n₀ W (ofS s v).args a c)
theorem ownsMap_below {W W' : World} {k : TypeId} {R : Value → Option (DataW Value × List MemPlace)} {B n : Nat} {D : DataW Value} (h : W.ownsMap Try.prog k R B n D) (hb : Below W.heap.size W W') : W'.ownsMap Try.prog k R B n D :=
  h.kept (row := none) ⟨hb.os, hb.tape, hb.output, hb.size, fun k hk _ => hb.block k hk⟩ (by simp)
theorem TabR.below {n₀ : Nat} {W W' : World} {B : Nat} {s : Sb} (h : TabR n₀ W B s) (hn : n₀ ≤ W.heap.size) (hb : Below W.heap.size W W') : TabR n₀ W' B s := by
  obtain ⟨D, h1, h2, h3⟩ := h
  refine ⟨D, ownsMap_below h1 hb, h2, fun v hv => ?_⟩
  obtain ⟨q1, q2, a, c, q3, q4⟩ := h3 v hv
  exact ⟨q1, q2, a, c, q3, q4.below (hb.mono hn)⟩

theorem tab_step {n₀ : Nat} {W w1 : World} {B : Nat} {s : Sb} {D : DataW Value} {x : Int} {t : T} {a : Option Addr} {c : Nat} (hfr : bnd s x = false) (hD : W.ownsMap Try.prog 3 heldR B s.length D) (h2 : ∀ v, bnd s v = false → Maps.has D (.int .i64 v) = false)
    (h3 : ∀ v, bnd s v = true → Maps.has D (.int .i64 v) = true ∧ (Lit.int .i64 (ofS s v).head).wf = true ∧ ∃ a c, (∀ z, D.atKey (.int .i64 v) z = .held (tm (ofS s v).head a (ofS s v).args.length c)) ∧ IsArgs n₀ W (ofS s v).args a c)
    (h1 : w1.ownsMap Try.prog 3 heldR B (s.length + 1) (D.put (.int .i64 x) (.held (tm t.head a t.args.length c)))) (htw : (Lit.int .i64 t.head).wf = true) (hA : IsArgs n₀ w1 t.args a c) (hb : Below n₀ W w1) : TabR n₀ w1 B (s ++ [(x, t)]) := by
  have hM := hD.isMap
  refine ⟨_, by simpa using h1, fun v hv => ?_, fun v hv => ?_⟩
  · rw [bnd_snoc, Bool.or_eq_false_iff, decide_eq_false_iff_not] at hv
    rw [Maps.has_put_other (by intro e; injection e with _ e; exact hv.2 e.symm)]
    exact h2 v hv.1
  · rw [ofS_snoc]
    by_cases e : x = v
    · subst e
      rw [hfr, if_neg (by simp), if_pos rfl]
      exact ⟨Maps.has_put_same (k := .int .i64 x) hM (show WideAt.IsKeyLit (.int .i64 x) from trivial) _, htw, a, c, fun z => Maps.atKey_put_same (k := .int .i64 x) hM (show WideAt.IsKeyLit (.int .i64 x) from trivial) _ z, hA⟩
    · rw [bnd_snoc, decide_eq_false e, Bool.or_false] at hv
      rw [if_pos hv]
      obtain ⟨q1, q2, a', c', q3, q4⟩ := h3 v hv
      have hne : Lit.int .i64 v ≠ Lit.int .i64 x := by intro e'; injection e' with _ e'; exact e e'.symm
      exact ⟨by rw [Maps.has_put_other hne]; exact q1, q2, a', c', fun z => by rw [Maps.atKey_put_other hne]; exact q3 z, q4.below hb⟩

def TabPost (n₀ : Nat) (s : Sb) (w : World) (e : Ending) (w' : World) : Prop := ∃ B, e = .returned (.map (some B)) ∧ TabR n₀ w' B s ∧ Below w.heap.size w w'
def TabI (n₀ : Nat) (s : Sb) (w : World) (i : Value) (wr : World) : Prop := ∃ k : Nat, k ≤ s.length ∧ i = .int .i64 k ∧ TabR n₀ wr w.heap.size (s.take k) ∧ Below w.heap.size w wr ∧ w.heap.size + 1 ≤ wr.heap.size

set_option maxRecDepth 100000 in
set_option maxHeartbeats 2000000 in
theorem tableOf_any (s : Sb) (hr : rightS 0 s = true) (n₀ : Nat) (a : Option Addr) (c : Nat) (w : World) (hn : n₀ ≤ w.heap.size) (hS : IsBs n₀ w s a c) :
    Calls Try.prog 58 #[.slice a s.length c] w (TabPost n₀ s w) := by
  have hl : s.length ≤ c ∧ c ≤ maxLen := ⟨hS.1, hS.2.1⟩
  unfold maxLen at hl
  obtain ⟨hl1, hl2⟩ := hl
  have HS := Lib.hid hS
  have HR := Lib.hid hr
  have hmm := run_makeTable
  have HST := Lib.hid (show TabI n₀ s w (.int .i64 ((0 : Nat) : Int)) (w.alloc (.map #[] 0)) from
    ⟨0, Nat.zero_le _, rfl, ⟨.map [], World.ownsMap_made w Try.prog 3 heldR, fun v _ => rfl, fun v hv => by simp [bnd] at hv⟩, (Below.refl _ _).alloc (Nat.le_refl _) _, by simp⟩)
  clear hS hr
  go_enter Try.func58, Try.ntmps58
  go_wp2
  go_loopw [11] (fun i wr => TabI n₀ s w i wr) (fun i _ => s.length - (intOf i).toNat)
  case atStart => exact HST.out
  case round =>
    obtain ⟨k, hk, rfl, hT, hB, hz⟩ := hrel
    have HT := Lib.hid hT
    have HB := Lib.hid hB
    clear hT hB hmm HST
    by_cases hlt : k < s.length
    · obtain ⟨b, o, x, t, a', c', rfl, hbn, hsk, hxw, htw, hc0, hc1, hc2, hA'⟩ := (HS.out.below (HB.out.mono hn)).elem (i := k) hlt
      have hk0 : (0 : Int) ≤ (k : Int) := Int.natCast_nonneg _
      have hk1 : (k : Int) < (s.length : Int) := by omega
      have HSK := Lib.hid hsk
      have HTW := Lib.hid htw
      have HA' := Lib.hid hA'
      have hkey := keyOf_int_mk (P := Try.prog) (k := 3) Try.underlying3 hxw
      have hbw : b < wr.heap.size := by omega
      obtain ⟨D, hD, h2, h3⟩ := HT.out
      have htl : (s.take k).length = k := by simp; omega
      have HD := Lib.hid hD
      have H2 := Lib.hid h2
      have H3 := Lib.hid h3
      have hDk := hD
      rw [htl] at hDk
      clear hsk htw hxw hA' hD h2 h3
      go_wp2_with (first | (at_mapUpdate; refine wpList_mapUpdate_own _ (by rfl) _ _ _ 86 (by rfl) 3 25 keyInt Try.underlying86 heldR w.heap.size k D (by rfl) (hDk.alloc _) (by unfold maxLen; omega) _ _ (.int .i64 x) (by rfl) (by rfl) hkey (.held (tm t.head a' t.args.length c')) [] (by rfl) ?_; intro w1 hown1 hgrow1) | go_in)
      go_roundw
      case rel =>
        have hb1 : Below w.heap.size wr w1 := ((Below.refl w.heap.size wr).alloc (by omega) _).grown hgrow1 (by simp; omega) (fun k hk => by cases hk; exact Nat.le_refl _)
        refine ⟨k + 1, by omega, by go_num, ?_, HB.out.trans hb1, by have := hb1.size; omega⟩
        obtain ⟨hkl, hke⟩ := List.getElem?_eq_some_iff.1 HSK.out
        rw [List.take_succ_eq_append_getElem hkl, hke]
        exact tab_step (rightS_fresh HR.out HSK.out) HD.out H2.out H3.out (by rw [htl]; exact hown1) HTW.out (HA'.out.below (hb1.mono hn)) (hb1.mono hn)
      case measure => simp [intOf]; omega
    · obtain rfl : k = s.length := by omega
      have hT := HT.out
      rw [List.take_length] at hT
      have HT' := Lib.hid hT
      clear hT
      go_wp2
      go_ret
      exact ⟨_, rfl, HT'.out, HB.out⟩

/-- What a replacement is: a term in new memory. -/
def RepPost (x : T) (w : World) (e : Ending) (w' : World) : Prop :=
  ∃ a c, e = .returned (tm x.head a x.args.length c) ∧ (Lit.int .i64 x.head).wf = true ∧ IsArgsp (fun b => w.heap.size ≤ b ∧ b < w'.heap.size) w' x.args a c ∧ Below w.heap.size w w'

end Go.Proofs.Ytleohdddaadbeaa

/- Contracts of the replacements: of a table, and of an offset. -/
namespace Go.Proofs.Ytleohdddaadbeaa
set_option linter.unusedVariables false
set_option linter.unusedSimpArgs false
open Go.RowKit Go.Maps

section
variable {P : Program} {w : World} {ops : Array Oper} {rest : List Oper} {o : Oper} {a : Act} {Q : Exit → Act → World → Prop}
theorem wpList_look_hit (hg : o.guard = none) (m x : Operand) (t : TypeId) (hop : o.op = Op.lookup t m x true)
    (k e : TypeId) (K : Keyed P k) (ht : P.underlying t = some (.map k e)) {z : Value} (hz : (zeroValue e).run P w = .ok z w) (b n : Nat) (D : DataW Value)
    (hm : a.eval m = .map (some b)) (hown : w.ownsMap P k heldR b n D) (key : Value) (kl : Lit) (hx : a.eval x = key) (hkey : keyOf P k key = some kl) (hhas : Maps.has D kl = true) (u : Value) (hat : ∀ z, D.atKey kl z = .held u)
    (hK : wpList P ops Q rest (a.put o.dst (.tuple #[u, .bool true])) w) : wpList P ops Q (o :: rest) a w := by
  refine wpList_lookup_own_ok _ hg m x t hop k e K ht heldR hz (.held z) [] rfl b n D hm hown key kl hx hkey fun v ps hv => ?_
  rw [hat] at hv
  simp only [heldR, Option.some.injEq, Prod.mk.injEq, DataW.held.injEq] at hv
  rw [hv.1, hhas]
  exact hK
theorem wpList_look_miss (hg : o.guard = none) (m x : Operand) (t : TypeId) (hop : o.op = Op.lookup t m x true)
    (k e : TypeId) (K : Keyed P k) (ht : P.underlying t = some (.map k e)) {z : Value} (hz : (zeroValue e).run P w = .ok z w) (b n : Nat) (D : DataW Value)
    (hm : a.eval m = .map (some b)) (hown : w.ownsMap P k heldR b n D) (key : Value) (kl : Lit) (hx : a.eval x = key) (hkey : keyOf P k key = some kl) (hhas : Maps.has D kl = false)
    (hK : wpList P ops Q rest (a.put o.dst (.tuple #[z, .bool false])) w) : wpList P ops Q (o :: rest) a w := by
  refine wpList_lookup_own_ok _ hg m x t hop k e K ht heldR hz (.held z) [] rfl b n D hm hown key kl hx hkey fun v ps hv => ?_
  rw [Maps.atKey_of_not_has hhas] at hv
  simp only [heldR, Option.some.injEq, Prod.mk.injEq, DataW.held.injEq] at hv
  rw [hv.1, hhas]
  exact hK
end

theorem ofS_size {s : Sb} {n : Nat} (hn : 1 ≤ n) (h : ∀ x ∈ s, x.2.size ≤ n) (v : Int) : (ofS s v).size ≤ n := by
  induction s with
  | nil => simp [ofS, vt, T.size, T.sizes]; omega
  | cons p s ih =>
    obtain ⟨x, t⟩ := p
    rw [ofS]
    split
    · exact h (x, t) (by simp)
    · exact ih fun y hy => h y (by simp [hy])

set_option maxRecDepth 100000 in
set_option maxHeartbeats 1000000 in
theorem tabRep_any (s : Sb) (hsz : ∀ x ∈ s, x.2.size ≤ 1000000000000) (v : Int) (h1 : -9223372036854775808 ≤ v) (h2 : v ≤ 9223372036854775807) (n₀ B : Nat) (w : World) (hn : n₀ ≤ w.heap.size) (hT : TabR n₀ w B s) :
    Calls Try.prog 59 #[.map (some B), .int .i64 v] w (RepPost (ofS s v) w) := by
  have hos := ofS_size (n := 1000000000000) (by omega) hsz v
  have hkey := keyOf_int_mk (P := Try.prog) (k := 3) Try.underlying3 (WalkArith.wf_i64 ⟨h1, h2⟩)
  obtain ⟨D, hD, hno, hyes⟩ := hT
  cases hb : bnd s v
  · have hh := hno v hb
    have hof := ofS_unbound hb
    have hD1 := hD.alloc (tmCells 0 none 0 0)
    clear hno hyes hb hsz
    go_enter Try.func59, Try.ntmps59
    go_wp2_with (first | (at_lookup; refine wpList_look_miss (by rfl) _ _ 86 (by rfl) 3 25 keyInt Try.underlying86 (zeroTerm _) B s.length D (by rfl) hD1 _ _ (by rfl) hkey hh ?_) | (go_at_call 78; refine (sVariable_any v _ h1 h2).mono ?_; rintro e w3 ⟨rfl, hb3⟩; have r0 := (hb3.cell (p := ⟨w.heap.size, 0, none⟩) (by simp; omega)).trans (show _ = some (Value.int .i64 0) from by simp [go_sem]); have r1 := (hb3.cell (p := ⟨w.heap.size, 1, none⟩) (by simp; omega)).trans (show _ = some (Value.slice none 0 0) from by simp [go_sem]); have r2 := (hb3.frozen (p := ⟨w.heap.size, 0, none⟩) (by simp; omega)).trans (show _ = false from by simp [go_sem]); have r3 := (hb3.frozen (p := ⟨w.heap.size, 1, none⟩) (by simp; omega)).trans (show _ = false from by simp [go_sem])) | go_in)
    have hbb : Below w.heap.size w w3 := (((Below.refl _ w).alloc (Nat.le_refl _) _).alloc (by simp) _).trans (hb3.mono (by simp; omega))
    refine bodyPost_ret (v := tm (-1 - v) none 0 0) (by simp [results, Try.results59, go_sem, r0, r1]) rfl ?_
    first | rw [hof] | skip
    exact ⟨none, 0, rfl, wf_vt h1 h2, ⟨by simp [vt, T.args], by simp [maxLen], .inl rfl⟩, (hbb.setCell (p := ⟨w.heap.size, 0, none⟩) (by simp) _).setCell (p := ⟨w.heap.size, 1, none⟩) (by simp) _⟩
  · obtain ⟨hh, hw, a, c, hat, hA⟩ := hyes v hb
    generalize ofS s v = x at *
    have hD1 := hD.alloc (tmCells 0 none 0 0)
    have hB2 : Below w.heap.size w ((w.alloc (tmCells 0 none 0 0)).alloc (tmCells x.head a x.args.length c)) := ((Below.refl _ w).alloc (Nat.le_refl _) _).alloc (by simp) _
    have CC := Lib.hid (copy_any x hos n₀ a c ((w.alloc (tmCells 0 none 0 0)).alloc (tmCells x.head a x.args.length c)) (by simp; omega) hw (hA.below (hB2.mono hn)))
    have HB2 := Lib.hid hB2
    have HW := Lib.hid hw
    clear hno hyes hb hsz hA hw hB2
    go_enter Try.func59, Try.ntmps59
    go_wp2_with (first | (at_lookup; refine wpList_look_hit (by rfl) _ _ 86 (by rfl) 3 25 keyInt Try.underlying86 (zeroTerm _) B s.length D (by rfl) hD1 _ _ (by rfl) hkey hh (tm x.head a x.args.length c) hat ?_) | (go_at_call 48; refine CC.out.mono ?_; rintro e w3 ⟨a3, c3, rfl, hI3, hb3⟩; have r0 := (hb3.cell (p := ⟨w.heap.size, 0, none⟩) (by simp; omega)).trans (show _ = some (Value.int .i64 0) from by simp [go_sem]); have r1 := (hb3.cell (p := ⟨w.heap.size, 1, none⟩) (by simp; omega)).trans (show _ = some (Value.slice none 0 0) from by simp [go_sem]); have r2 := (hb3.frozen (p := ⟨w.heap.size, 0, none⟩) (by simp; omega)).trans (show _ = false from by simp [go_sem]); have r3 := (hb3.frozen (p := ⟨w.heap.size, 1, none⟩) (by simp; omega)).trans (show _ = false from by simp [go_sem])) | go_in)
    have hbb : Below w.heap.size w w3 := HB2.out.trans (hb3.mono HB2.out.size)
    refine bodyPost_ret (v := tm x.head a3 x.args.length c3) (by simp [results, Try.results59, go_sem, r0, r1]) rfl ?_
    refine ⟨a3, c3, rfl, HW.out, hI3.keep (fun b hb => ?_) (fun b hb => ⟨?_, ?_⟩), (hbb.setCell (p := ⟨w.heap.size, 0, none⟩) (by simp) _).setCell (p := ⟨w.heap.size, 1, none⟩) (by simp) _⟩
    · have h := hb.1
      simp at h
      exact (Below.heap_setCell _ _ _ _ (by show b ≠ w.heap.size; omega)).trans (Below.heap_setCell _ _ _ _ (by show b ≠ w.heap.size; omega))
    · have h := hb.1
      simp at h
      omega
    · simpa using hb.2.lt

end Go.Proofs.Ytleohdddaadbeaa
