/- QBn: joined of Lb, Ss0, Te0, Hr0, Reb, Ck0, Wv0, Of2, Sv1, Sb, SO0. -/
import Derived.Test.YtpncmdlbmnmahaaGreatQBm
import Derived.Test.YtpncmdlbmnmahaaGreatCopy
import Derived.Test.YtpncmdlbmnmahaaGreatQBf
import Derived.Test.YtpncmdlbmnmahaaGreatQBd
import Derived.Test.YtpncmdlbmnmahaaGreatQBe
import Derived.Test.YtpncmdlbmnmahaaGreatQBc
import Derived.Maps.OwnSet
import Derived.Test.YtpncmdlbmnmahaaGreatQBj
import Derived.Shelf.Abstract
import Derived.Test.YtpncmdlbmnmahaaGreatQBa
/- Variables of type Lit that are written; copies that are kept. -/
namespace Go.Proofs.YtpncmdlbmnmahaaGreat
set_option linter.unusedVariables false
set_option linter.unusedSimpArgs false
open Go.RowKit
/-- A variable of type Lit: its block. -/
def Bo (b : Nat) (x : LV) (X : World) : Prop :=
  X.heap[b]? = some (.cells #[.bool x.n, .int .i64 x.l.head, .slice x.pa x.l.args.length x.ca, .int .i64 x.r.head, .slice x.pb x.r.args.length x.cb] 44 (0, 0))
theorem Bo.lc {b : Nat} {x : LV} {X : World} (h : Bo b x X) : Lc b x X := by
  unfold Bo at h
  refine ⟨?_, ?_, ?_, ?_, ?_⟩ <;> simp [World.cell?, h]
theorem Bo.lf {b : Nat} {x : LV} {X : World} (h : Bo b x X) : X.frozen? ⟨b, 0, none⟩ = false ∧ X.frozen? ⟨b, 1, none⟩ = false ∧ X.frozen? ⟨b, 2, none⟩ = false ∧ X.frozen? ⟨b, 3, none⟩ = false ∧ X.frozen? ⟨b, 4, none⟩ = false := by
  unfold Bo at h
  refine ⟨?_, ?_, ?_, ?_, ?_⟩ <;> simp [World.frozen?, h]
theorem Bo.lt {b : Nat} {x : LV} {X : World} (h : Bo b x X) : b < X.heap.size := (Array.getElem?_eq_some_iff.1 h).1
theorem later_bo (W : World) (x : LV) : Later (Bo W.heap.size x) (W.alloc x.obj) := fun X hX => by
  unfold Bo
  rw [hX.block _ (by simp)]
  show (W.heap.push x.obj)[W.heap.size]? = _
  simp
theorem Later.pushB {F : World → Prop} {W W' : World} (k : Later F W) (hb : Below W.heap.size W W') (x : LV) : Later (fun X => Bo W'.heap.size x X ∧ F X) (W'.alloc x.obj) :=
  (k.mv (hb.alloc hb.size _)).and (later_bo W' x)
theorem Bo.swap {b : Nat} {x : LV} {X : World} (h : Bo b x X) : Bo b x.turn ((((X.setCell ⟨b, 1, none⟩ (.int .i64 x.r.head)).setCell ⟨b, 2, none⟩ (.slice x.pb x.r.args.length x.cb)).setCell ⟨b, 3, none⟩ (.int .i64 x.l.head)).setCell ⟨b, 4, none⟩ (.slice x.pa x.l.args.length x.ca)) := by
  have h1 := heap_setCell_same (o := 1) h (.int .i64 x.r.head)
  have h2 := heap_setCell_same (o := 2) h1 (.slice x.pb x.r.args.length x.cb)
  have h3 := heap_setCell_same (o := 3) h2 (.int .i64 x.l.head)
  have h4 := heap_setCell_same (o := 4) h3 (.slice x.pa x.l.args.length x.ca)
  exact h4
/-- The zero literal. -/
def LV.zero : LV := ⟨false, .node 0 [], .node 0 [], none, 0, none, 0⟩
theorem lv_zero (n : Nat) (X : World) : IsLv n X LV.zero := ⟨by decide, by decide, ⟨by simp [LV.zero, T.args], by simp [LV.zero, maxLen], .inl rfl⟩, ⟨by simp [LV.zero, T.args], by simp [LV.zero, maxLen], .inl rfl⟩⟩
theorem bl_sets {n b : Nat} {w u : World} (h : Below n w u) (hb : n ≤ b) (v0 v1 v2 v3 v4 : Value) : Below n w (((((u.setCell ⟨b, 0, none⟩ v0).setCell ⟨b, 1, none⟩ v1).setCell ⟨b, 2, none⟩ v2).setCell ⟨b, 3, none⟩ v3).setCell ⟨b, 4, none⟩ v4) :=
  ((((h.setCell (p := ⟨b, 0, none⟩) hb v0).setCell (p := ⟨b, 1, none⟩) hb v1).setCell (p := ⟨b, 2, none⟩) hb v2).setCell (p := ⟨b, 3, none⟩) hb v3).setCell (p := ⟨b, 4, none⟩) hb v4
/-! ### What Orient answers -/
/-- A literal in memory of its own, with an error. -/
def LePost (n : Bool) (l r : T) (k : Int) (w : World) (e : Ending) (w' : World) : Prop :=
  ∃ z : LV, e = .returned (.tuple #[z.v, .int .i64 k]) ∧ z.n = n ∧ z.l = l ∧ z.r = r ∧ IsLv w'.heap.size w' z ∧ Below w.heap.size w w'
/-- A variable of type Lit that holds something. -/
def Zb (b : Nat) (X : World) : Prop := ∃ v0 v1 v2 v3 v4 : Value, X.heap[b]? = some (.cells #[v0, v1, v2, v3, v4] 44 (0, 0))
theorem Zb.bl {b : Nat} {X u : World} (h : Zb b X) (hu : Below X.heap.size X u) : Zb b u := by
  obtain ⟨v0, v1, v2, v3, v4, h⟩ := h
  exact ⟨v0, v1, v2, v3, v4, (hu.block b (Array.getElem?_eq_some_iff.1 h).1).trans h⟩
theorem Zb.sets {b : Nat} {X : World} (h : Zb b X) (u0 u1 u2 u3 u4 : Value) : Zb b (((((X.setCell ⟨b, 0, none⟩ u0).setCell ⟨b, 1, none⟩ u1).setCell ⟨b, 2, none⟩ u2).setCell ⟨b, 3, none⟩ u3).setCell ⟨b, 4, none⟩ u4) := by
  obtain ⟨v0, v1, v2, v3, v4, h⟩ := h
  have h0 := heap_setCell_same (o := 0) h u0
  have h1 := heap_setCell_same (o := 1) h0 u1
  have h2 := heap_setCell_same (o := 2) h1 u2
  have h3 := heap_setCell_same (o := 3) h2 u3
  have h4 := heap_setCell_same (o := 4) h3 u4
  exact ⟨_, _, _, _, _, h4⟩
theorem Zb.dr {b : Nat} {X : World} (h : Zb b X) : Zb b X.drew := h
theorem Zb.all {b : Nat} {X : World} (h : Zb b X) : ∃ v0 v1 v2 v3 v4 : Value, X.cell? ⟨b, 0, none⟩ = some v0 ∧ X.cell? ⟨b, 1, none⟩ = some v1 ∧ X.cell? ⟨b, 2, none⟩ = some v2 ∧ X.cell? ⟨b, 3, none⟩ = some v3 ∧ X.cell? ⟨b, 4, none⟩ = some v4 ∧
    X.frozen? ⟨b, 0, none⟩ = false ∧ X.frozen? ⟨b, 1, none⟩ = false ∧ X.frozen? ⟨b, 2, none⟩ = false ∧ X.frozen? ⟨b, 3, none⟩ = false ∧ X.frozen? ⟨b, 4, none⟩ = false := by
  obtain ⟨v0, v1, v2, v3, v4, h⟩ := h
  refine ⟨v0, v1, v2, v3, v4, ?_, ?_, ?_, ?_, ?_, ?_, ?_, ?_, ?_, ?_⟩ <;> simp [World.cell?, World.frozen?, h]
theorem Zb.new (W : World) (v0 v1 v2 v3 v4 : Value) : Zb W.heap.size (W.alloc (.cells #[v0, v1, v2, v3, v4] 44)) := ⟨v0, v1, v2, v3, v4, by
  show (W.heap.push _)[W.heap.size]? = _
  simp⟩
theorem Zb.lt {b : Nat} {X : World} (h : Zb b X) : b < X.heap.size := by
  obtain ⟨_, _, _, _, _, h⟩ := h
  exact (Array.getElem?_eq_some_iff.1 h).1
/-- A literal that was laid into a variable. -/
theorem Zb.lc {b : Nat} {X : World} (h : Zb b X) (z : LV) : Lc b z (((((X.setCell ⟨b, 0, none⟩ (.bool z.n)).setCell ⟨b, 1, none⟩ (.int .i64 z.l.head)).setCell ⟨b, 2, none⟩ (.slice z.pa z.l.args.length z.ca)).setCell ⟨b, 3, none⟩ (.int .i64 z.r.head)).setCell ⟨b, 4, none⟩ (.slice z.pb z.r.args.length z.cb)) := by
  obtain ⟨v0, v1, v2, v3, v4, h⟩ := h
  have h0 := heap_setCell_same (o := 0) h (.bool z.n)
  have h1 := heap_setCell_same (o := 1) h0 (.int .i64 z.l.head)
  have h2 := heap_setCell_same (o := 2) h1 (.slice z.pa z.l.args.length z.ca)
  have h3 := heap_setCell_same (o := 3) h2 (.int .i64 z.r.head)
  have h4 := heap_setCell_same (o := 4) h3 (.slice z.pb z.r.args.length z.cb)
  exact Bo.lc h4
end Go.Proofs.YtpncmdlbmnmahaaGreat

/- Sizes of terms put; plain. -/
namespace Go.Proofs.YtpncmdlbmnmahaaGreat
set_option linter.unusedVariables false
set_option linter.unusedSimpArgs false
open Go.RowKit
mutual
theorem T.sub_size {f : Int → T} {n : Nat} (hn : 1 ≤ n) (hf : ∀ v, (f v).size ≤ n) : (t : T) → (t.sub f).size ≤ t.size * n
  | .node h ts => by
    rw [T.sub]
    split
    · have := hf (-1 - h); simp only [T.size, Nat.add_mul]; have : 0 ≤ T.sizes ts * n := Nat.zero_le _; omega
    · have := T.subl_size hn hf ts; simp only [T.size, Nat.add_mul]; omega
theorem T.subl_size {f : Int → T} {n : Nat} (hn : 1 ≤ n) (hf : ∀ v, (f v).size ≤ n) : (ts : List T) → T.sizes (T.subl f ts) ≤ T.sizes ts * n
  | [] => by simp [T.subl, T.sizes]
  | t :: ts => by have h1 := T.sub_size hn hf t; have h2 := T.subl_size hn hf ts; simp only [T.subl, T.sizes, Nat.add_mul]; omega
end
end Go.Proofs.YtpncmdlbmnmahaaGreat

/- Answers of a term and an error; plain. -/
namespace Go.Proofs.YtpncmdlbmnmahaaGreat
set_option linter.unusedVariables false
set_option linter.unusedSimpArgs false
open Go.RowKit
/-- .. with a condition on the blocks. -/
def TEPostp (ok : Nat → Prop) (x : T) (k : Int) (w : World) (e : Ending) (w' : World) : Prop :=
  ∃ a c, e = .returned (.tuple #[tm x.head a x.args.length c, .int .i64 k]) ∧ (Lit.int .i64 x.head).wf = true ∧ IsArgsp ok w' x.args a c ∧ Below w.heap.size w w'
/-- .. in blocks that the caller had before n₀, or that the call made. -/
def TEPostF (n₀ : Nat) (x : T) (k : Int) (w : World) (e : Ending) (w' : World) : Prop :=
  ∃ a c, e = .returned (.tuple #[tm x.head a x.args.length c, .int .i64 k]) ∧ (Lit.int .i64 x.head).wf = true ∧ IsArgsp (fun b => (b < n₀ ∨ w.heap.size ≤ b) ∧ b < w'.heap.size) w' x.args a c ∧ Below w.heap.size w w'
theorem isArgsp_z (ok : Nat → Prop) (w : World) : IsArgsp ok w (T.node 0 []).args none 0 := ⟨by simp [T.args], by simp [maxLen], .inl rfl⟩
def endT (x : T) : T := if x.check = 0 then x else Z0
theorem wf_z0 : (Lit.int .i64 Z0.head).wf = true := by decide
end Go.Proofs.YtpncmdlbmnmahaaGreat

/- Hr0: split off Tb0. -/
namespace Go.Proofs.YtpncmdlbmnmahaaGreat
set_option linter.unusedVariables false
set_option linter.unusedSimpArgs false
open Go.RowKit Go.Maps
/-- Elements of maps, read as they are. -/
def heldR (v : Value) : Option (DataW Value × List MemPlace) := some (.held v, [])
theorem keyInt : Keyed Tryz.prog 3 := int_keyed Tryz.underlying3
/-- What a replacement is: a term in new memory. -/
def RepPost (x : T) (w : World) (e : Ending) (w' : World) : Prop :=
  ∃ a c, e = .returned (tm x.head a x.args.length c) ∧ (Lit.int .i64 x.head).wf = true ∧ IsArgsp (fun b => w.heap.size ≤ b ∧ b < w'.heap.size) w' x.args a c ∧ Below w.heap.size w w'
end Go.Proofs.YtpncmdlbmnmahaaGreat

/- Contract of rebuild: a term anew, with a replacement for each variable. -/
namespace Go.Proofs.YtpncmdlbmnmahaaGreat
set_option linter.unusedVariables false
set_option linter.unusedSimpArgs false
open Go.RowKit
/-- The cells of a block begin with those of a row that lies in it. -/
theorem row_split {w : World} {g : Nat} {cur : Array Value} {ty : TypeId} {fr : Nat × Nat} (hb : w.heap[g]? = some (.cells cur ty fr)) {os : List Value} (hc : ∀ j u, os[j]? = some u → w.cell? ⟨g, 0 + j, none⟩ = some u) : ∃ sp, cur.toList = os ++ sp := by
  refine ⟨cur.toList.drop os.length, ?_⟩
  apply List.ext_getElem?
  intro i
  by_cases hi : i < os.length
  · rw [List.getElem?_append_left hi, List.getElem?_eq_getElem hi]
    have h := hc i _ (List.getElem?_eq_getElem hi)
    rw [Nat.zero_add] at h
    simpa [World.cell?, hb] using h
  · rw [List.getElem?_append_right (by omega), List.getElem?_drop]
    congr 1
    omega
theorem cell_of_split {w : World} {g : Nat} {cur : Array Value} {ty : TypeId} {fr : Nat × Nat} (hb : w.heap[g]? = some (.cells cur ty fr)) {l : List Value} (hl : cur.toList = l) {j : Nat} {u : Value} (hu : l[j]? = some u) : w.cell? ⟨g, j, none⟩ = some u := by
  subst hl
  simpa [World.cell?, hb] using hu
structure RbI (n₀ : Nat) (ts xs : List T) (w w3 : World) (g c2 : Nat) (k : Nat) (vs os sp : List Value) (cur : Array Value) (wr : World) : Prop where
  blk : wr.heap[g]? = some (.cells cur 42 (0, 0))
  cells : cur.toList = vs ++ (os ++ sp)
  new : RowVals (fun b => w.heap.size + 2 ≤ b ∧ b < wr.heap.size ∧ b ≠ g) wr (xs.take k) vs
  old : RowVals (· < n₀) wr (ts.drop k) os
  below : Below (w.heap.size + 2) w3 wr
def RbX (n₀ : Nat) (ts xs : List T) (w w3 : World) (g c2 : Nat) (i : Value) (wr : World) : Prop := ∃ (k : Nat) (vs os sp : List Value) (cur : Array Value), k ≤ ts.length ∧ i = .int .i64 k ∧ RbI n₀ ts xs w w3 g c2 k vs os sp cur wr
theorem rb_step {n₀ : Nat} {ts xs : List T} {w w3 wr w5 : World} {g c2 k : Nat} {h0 s0 : Value} {vs os sp : List Value} {cur : Array Value} {x t : T} {a : Option Addr} {c : Nat} {ob : Obj} (hn : n₀ ≤ w.heap.size) (hg : w.heap.size + 2 ≤ g) (I : RbI n₀ ts xs w w3 g c2 k vs (h0 :: s0 :: os) sp cur wr) (hk : ts[k]? = some t) (hx : xs[k]? = some x) (hz : w.heap.size + 2 ≤ wr.heap.size) (hxw : (Lit.int .i64 x.head).wf = true)
    (hb5 : Below (wr.alloc ob).heap.size (wr.alloc ob) w5) (hA : IsArgsp (fun b => (wr.alloc ob).heap.size ≤ b ∧ b < w5.heap.size) w5 x.args a c) :
    ∃ cur', RbI n₀ ts xs w w3 g c2 (k + 1) (vs ++ [.int .i64 x.head, .slice a x.args.length c]) os sp cur' ((w5.setCell ⟨g, k * 2, none⟩ (.int .i64 x.head)).setCell ⟨g, k * 2 + 1, none⟩ (.slice a x.args.length c)) := by
  obtain ⟨i1, i2, i3, i4, i5⟩ := I
  have hgl : g < wr.heap.size := (Array.getElem?_eq_some_iff.1 i1).1
  have hkx := (List.getElem?_eq_some_iff.1 hx).1
  have hlen := i3.length
  rw [List.length_take, Nat.min_eq_left (by omega)] at hlen
  have hb5' : Below wr.heap.size wr w5 := ((Below.refl _ wr).alloc (Nat.le_refl _) _).trans (hb5.mono (by simp))
  have hz5 := hb5.size
  rw [heap_alloc_size] at hz5
  have h5 : w5.heap[g]? = some (.cells cur 42 (0, 0)) := (hb5'.block g hgl).trans i1
  have hoth : ∀ b, b ≠ g → ((w5.setCell ⟨g, k * 2, none⟩ (.int .i64 x.head)).setCell ⟨g, k * 2 + 1, none⟩ (.slice a x.args.length c)).heap[b]? = w5.heap[b]? := fun b hb => (Below.heap_setCell _ _ _ _ hb).trans (Below.heap_setCell _ _ _ _ hb)
  refine ⟨(cur.setIfInBounds (k * 2) (.int .i64 x.head)).setIfInBounds (k * 2 + 1) (.slice a x.args.length c), ?_, ?_, ?_, ?_, ?_⟩
  · rw [heap_setCell_same (heap_setCell_same h5 _)]
  · rw [Array.toList_setIfInBounds, Array.toList_setIfInBounds, i2]
    rw [List.set_append_right _ _ (by omega), show k * 2 - vs.length = 0 from by omega]
    simp only [List.cons_append, List.set_cons_zero]
    rw [List.set_append_right _ _ (by omega), show k * 2 + 1 - vs.length = 1 from by omega]
    simp
  · rw [List.take_succ_eq_append_getElem hkx, (List.getElem?_eq_some_iff.1 hx).2]
    have e1 := hA.keep (ok' := fun b => w.heap.size + 2 ≤ b ∧ b < ((w5.setCell ⟨g, k * 2, none⟩ (.int .i64 x.head)).setCell ⟨g, k * 2 + 1, none⟩ (.slice a x.args.length c)).heap.size ∧ b ≠ g) (fun b hb => hoth b (by have := hb.1; rw [heap_alloc_size] at this; omega)) (fun b hb => by
      have h1 := hb.1
      have h2 := hb.2
      rw [heap_alloc_size] at h1
      exact ⟨by omega, by simpa using h2, by omega⟩)
    have e2 := RowVals.keep (ok' := fun b => w.heap.size + 2 ≤ b ∧ b < ((w5.setCell ⟨g, k * 2, none⟩ (.int .i64 x.head)).setCell ⟨g, k * 2 + 1, none⟩ (.slice a x.args.length c)).heap.size ∧ b ≠ g) (fun b hb => (hoth b hb.2.2).trans (hb5'.block b hb.2.1)) (fun b hb => ⟨hb.1, by have := hb.2.1; simp; omega, hb.2.2⟩) i3
    exact RowVals.snoc hxw e1 e2
  · rw [List.drop_eq_getElem_cons (List.getElem?_eq_some_iff.1 hk).1] at i4
    exact RowVals.keep (fun b hb => (hoth b (by omega)).trans (hb5'.block b (by omega))) (fun b hb => hb) i4.2.2.2
  · exact ((i5.trans (hb5'.mono (by omega))).setCell (p := ⟨g, k * 2, none⟩) hg _).setCell (p := ⟨g, k * 2 + 1, none⟩) hg _
set_option maxRecDepth 100000 in
set_option maxHeartbeats 4000000 in
theorem rebuild_any (gf : FuncId) (hcf : ∀ args W, (callFunc gf args).run Tryz.prog W = .ok (.enter gf args) W) (m : Value) (f : Int → T) : ∀ (N : Nat) (t : T), t.size ≤ N → t.size ≤ 1000000000000 → bad (T.subs 1 t) = false → ∀ (n₀ : Nat) (a : Option Addr) (c : Nat) (w : World), n₀ ≤ w.heap.size → (Lit.int .i64 t.head).wf = true → IsArgs n₀ w t.args a c →
    (∀ W v, Below w.heap.size w W → 0 ≤ v → v ≤ 255 → Calls Tryz.prog gf #[m, .int .i64 v] W (RepPost (f v) W)) →
    Calls Tryz.prog 81 #[tm t.head a t.args.length c, .func (.func gf) #[m] #[]] w (RepPost (t.sub f) w) := by
  intro N
  induction N with
  | zero => intro t ht; have := T.size_pos t; omega
  | succ N ih =>
    intro t ht hbig hgd n₀ a c w hn hwf hA hC
    have IH := Lib.hid ih
    have HWF := Lib.hid hwf
    have HC := Lib.hid hC
    have HGD := Lib.hid hgd
    have hsz := T.size_eq t
    have hlz := T.sizes_ge_length t.args
    have hlc : t.args.length ≤ c ∧ c ≤ maxLen := ⟨hA.1, hA.2.1⟩
    unfold maxLen at hlc
    obtain ⟨hl1, hl2⟩ := hlc
    have HS := Lib.hid hsz
    have hlen : t.args.length ≤ 1000000000000 := by omega
    have HA := Lib.hid hA
    have hok := good_head hgd
    obtain ⟨hw1, hw2⟩ := wf_low hwf
    clear ih hwf hA hsz hlz hC hgd
    obtain ⟨w2, hw2'⟩ : ∃ w2, (w.alloc (tmCells t.head a t.args.length c)).alloc (tmCells 0 none 0 0) = w2 := ⟨_, rfl⟩
    have hB2 : Below w.heap.size w w2 := by rw [← hw2']; exact ((Below.refl _ w).alloc (Nat.le_refl _) _).alloc (by simp) _
    have hs2 : w2.heap.size = w.heap.size + 2 := by rw [← hw2']; simp
    have L2 := Lib.hid (show ∀ W, Below (w.heap.size + 2) w2 W → W.cell? ⟨w.heap.size, 0, none⟩ = some (.int .i64 t.head) ∧ W.cell? ⟨w.heap.size, 1, none⟩ = some (.slice a t.args.length c) ∧ W.cell? ⟨w.heap.size + 1, 0, none⟩ = some (.int .i64 0) ∧ W.cell? ⟨w.heap.size + 1, 1, none⟩ = some (.slice none 0 0) ∧ W.frozen? ⟨w.heap.size + 1, 0, none⟩ = false ∧ W.frozen? ⟨w.heap.size + 1, 1, none⟩ = false from fun W hW =>
      ⟨(hW.cell (p := ⟨w.heap.size, 0, none⟩) (by simp)).trans (by rw [← hw2']; simp [go_sem]), (hW.cell (p := ⟨w.heap.size, 1, none⟩) (by simp)).trans (by rw [← hw2']; simp [go_sem]), (hW.cell (p := ⟨w.heap.size + 1, 0, none⟩) (by simp)).trans (by rw [← hw2']; simp [go_sem]), (hW.cell (p := ⟨w.heap.size + 1, 1, none⟩) (by simp)).trans (by rw [← hw2']; simp [go_sem]), (hW.frozen (p := ⟨w.heap.size + 1, 0, none⟩) (by simp)).trans (by rw [← hw2']; simp [go_sem]), (hW.frozen (p := ⟨w.heap.size + 1, 1, none⟩) (by simp)).trans (by rw [← hw2']; simp [go_sem])⟩)
    have HB2 := Lib.hid hB2
    have HS2 := Lib.hid hs2
    clear hB2 hs2
    obtain ⟨c0, c1, r0, r1, rf0, rf1⟩ := L2.out w2 (Below.refl _ _)
    by_cases q : t.head < 0
    · have hv : 0 ≤ -1 - t.head ∧ -1 - t.head ≤ 255 := by
        simp only [okB, if_pos q, Bool.and_eq_true, decide_eq_true_iff] at hok
        omega
      have hsub := T.sub_neg (f := f) q
      have CC := Lib.hid (HC.out w2 (-1 - t.head) HB2.out hv.1 hv.2)
      go_enter Tryz.func81, Tryz.ntmps81
      go_wp2_with fail
      refine CC.out.mono ?_
      rintro e w3 ⟨a3, c3, rfl, hw3, hI3, hb3⟩
      clear c0 c1 r0 r1 rf0 rf1 hw2'
      obtain ⟨c0, c1, r0, r1, rf0, rf1⟩ := L2.out w3 (by rw [← HS2.out]; exact hb3)
      have HW3 := Lib.hid hw3
      have HI3 := Lib.hid hI3
      have HB3 := Lib.hid (HB2.out.trans (hb3.mono HB2.out.size))
      clear hw3 hI3 hb3
      go_wp2
      refine bodyPost_ret (v := tm (f (-1 - t.head)).head a3 (f (-1 - t.head)).args.length c3) (by simp [results, Tryz.results81, go_sem, r0, r1]) rfl ?_
      rw [hsub]
      refine ⟨a3, c3, rfl, HW3.out, HI3.out.keep (fun b hb => ?_) (fun b hb => ⟨by have := hb.1; have := HS2.out; omega, by simpa using hb.2⟩), (HB3.out.setCell (p := ⟨w.heap.size + 1, 0, none⟩) (by simp) _).setCell (p := ⟨w.heap.size + 1, 1, none⟩) (by simp) _⟩
      have h := hb.1
      rw [HS2.out] at h
      exact (Below.heap_setCell _ _ _ _ (by show b ≠ w.heap.size + 1; omega)).trans (Below.heap_setCell _ _ _ _ (by show b ≠ w.heap.size + 1; omega))
    · have hsub := T.sub_pos (f := f) q
      have HSUB := Lib.hid hsub
      have CL := Lib.hid (clone_any t.args hlen n₀ a c w2 (by have := HS2.out; omega) (HA.out.below (HB2.out.mono hn)))
      clear hsub hok
      go_enter Tryz.func81, Tryz.ntmps81
      go_wp2_with fail
      refine CL.out.mono ?_
      rintro e w3 ⟨a2, c2, rfl, ⟨hn1, hn2, hnr⟩, hb3⟩
      have hB3 : Below (w.heap.size + 2) w2 w3 := by rw [← HS2.out]; exact hb3
      clear c0 c1 r0 r1 rf0 rf1 hw2'
      unfold maxLen at hn2
      rcases hnr with hnil | ⟨g, cur, rfl, hg, hgb, hgs, hrow⟩
      · have hl0 : t.args.length = 0 := by rw [hnil]; rfl
        have HNIL := Lib.hid hnil
        obtain ⟨c0, c1, r0, r1, rf0, rf1⟩ := L2.out w3 hB3
        have HB3 := Lib.hid (HB2.out.trans (hb3.mono HB2.out.size))
        clear hnil hb3 hB3
        rw [hl0]
        go_wp2
        go_loopw [21] (fun i wr => i = .int .i64 0 ∧ wr = w3) (fun _ _ => 0)
        case atStart => exact ⟨rfl, rfl⟩
        case round =>
          obtain ⟨rfl, rfl⟩ := hrel
          go_wp2
          refine bodyPost_ret (v := tm t.head a2 0 c2) (by simp [results, Tryz.results81, go_sem, r0, r1]) rfl ?_
          rw [HSUB.out, HNIL.out]
          exact ⟨a2, c2, rfl, HWF.out, ⟨by simp [T.args], by unfold maxLen; exact hn2, .inl rfl⟩, (HB3.out.setCell (p := ⟨w.heap.size + 1, 0, none⟩) (by simp) _).setCell (p := ⟨w.heap.size + 1, 1, none⟩) (by simp) _⟩
      · obtain ⟨os, hos, hoc, _⟩ := rowVals_of t.args 0 ((isRowp_lt _).2 hrow)
        obtain ⟨sp, hsp⟩ := row_split hgb hoc
        have hg2 : w.heap.size + 2 ≤ g := by have := HS2.out; omega
        have HST := Lib.hid (show RbX n₀ t.args (t.args.map (T.sub f)) w w3 g c2 (.int .i64 ((0 : Nat) : Int)) w3 from ⟨0, [], os, sp, cur, Nat.zero_le _, rfl, hgb, hsp, trivial, hos, Below.refl _ _⟩)
        have HB3 := Lib.hid hB3
        have HS3 := Lib.hid (show w.heap.size + 2 ≤ w3.heap.size from by have := hb3.size; have := HS2.out; omega)
        clear hos hoc hsp hgb hrow hb3 hB3 CL hgs hg
        go_wp2
        go_loopw [21] (fun i wr => RbX n₀ t.args (t.args.map (T.sub f)) w w3 g c2 i wr) (fun i _ => t.args.length - (intOf i).toNat)
        case atStart => exact HST.out
        case round =>
          obtain ⟨k, vs, os, sp, cur, hk, rfl, hI⟩ := hrel
          have HI := Lib.hid hI
          have hz : w.heap.size + 2 ≤ wr.heap.size := by have := hI.below.size; have := HS3.out; omega
          have hBw : Below (w.heap.size + 2) w2 wr := HB3.out.trans hI.below
          have hw : Below w.heap.size w wr := HB2.out.trans (hBw.mono (by omega))
          have hvl := hI.new.length
          rw [List.length_take, List.length_map, Nat.min_eq_left hk] at hvl
          have hgw : g < wr.heap.size := (Array.getElem?_eq_some_iff.1 hI.blk).1
          by_cases hlt : k < t.args.length
          · obtain ⟨s, hs⟩ : ∃ s, t.args[k]? = some s := ⟨_, List.getElem?_eq_getElem hlt⟩
            have hold := hI.old
            rw [List.drop_eq_getElem_cons hlt, (List.getElem?_eq_some_iff.1 hs).2] at hold
            obtain ⟨os', a', c', rfl, hsw, hA'⟩ : ∃ os' a' c', os = .int .i64 s.head :: .slice a' s.args.length c' :: os' ∧ (Lit.int .i64 s.head).wf = true ∧ IsArgs n₀ wr s.args a' c' := by
              match os, hold with
              | h0 :: s0 :: os', ⟨q1, q2, ⟨a', c', q3, q4⟩, _⟩ => exact ⟨os', a', c', by rw [q2, q3], q1, isArgsp_lt.1 q4⟩
            have g0 : wr.cell? ⟨g, k * 2, none⟩ = some (.int .i64 s.head) := cell_of_split hI.blk hI.cells (by rw [List.getElem?_append_right (by omega), show k * 2 - vs.length = 0 from by omega]; rfl)
            have g1 : wr.cell? ⟨g, k * 2 + 1, none⟩ = some (.slice a' s.args.length c') := cell_of_split hI.blk hI.cells (by rw [List.getElem?_append_right (by omega), show k * 2 + 1 - vs.length = 1 from by omega]; rfl)
            have f0 : wr.frozen? ⟨g, k * 2, none⟩ = false := by simp [World.frozen?, hI.blk]
            have f1 : wr.frozen? ⟨g, k * 2 + 1, none⟩ = false := by simp [World.frozen?, hI.blk]
            obtain ⟨w4, hw4⟩ : ∃ w4, wr.alloc (tmCells s.head a' s.args.length c') = w4 := ⟨_, rfl⟩
            have hb4 : Below wr.heap.size wr w4 := by rw [← hw4]; exact (Below.refl _ _).alloc (Nat.le_refl _) _
            have hz4 : w4.heap.size = wr.heap.size + 1 := by rw [← hw4]; simp
            have hsN : s.size ≤ N := by have := T.size_lt_of_mem hs; have := HS.out; omega
            have hsb : s.size ≤ 1000000000000 := by have := T.size_lt_of_mem hs; have := HS.out; omega
            have hw4' : Below w.heap.size w w4 := hw.trans (hb4.mono (by omega))
            have CC := Lib.hid (IH.out s hsN hsb (good_arg HGD.out hs) n₀ a' c' w4 (by omega) hsw (hA'.below (hb4.mono (by omega))) (fun W v hW h0 h1 => HC.out W v (hw4'.trans (hW.mono hw4'.size)) h0 h1))
            have d0 : w4.cell? ⟨wr.heap.size, 0, none⟩ = some (.int .i64 s.head) := by rw [← hw4]; simp [go_sem]
            have d1 : w4.cell? ⟨wr.heap.size, 1, none⟩ = some (.slice a' s.args.length c') := by rw [← hw4]; simp [go_sem]
            have G5 := Lib.hid (show ∀ W, Below w4.heap.size w4 W → W.cell? ⟨g, k * 2, none⟩ = some (.int .i64 s.head) ∧ W.cell? ⟨g, k * 2 + 1, none⟩ = some (.slice a' s.args.length c') ∧ W.frozen? ⟨g, k * 2, none⟩ = false ∧ W.frozen? ⟨g, k * 2 + 1, none⟩ = false from fun W hW => by
              have h := hb4.trans (hW.mono hb4.size)
              exact ⟨(h.cell (p := ⟨g, k * 2, none⟩) hgw).trans g0, (h.cell (p := ⟨g, k * 2 + 1, none⟩) hgw).trans g1, (h.frozen (p := ⟨g, k * 2, none⟩) hgw).trans f0, (h.frozen (p := ⟨g, k * 2 + 1, none⟩) hgw).trans f1⟩)
            have HSS := Lib.hid hs
            have HW4 := Lib.hid hw4
            have HZ4 := Lib.hid hz4
            have hk0 : (0 : Int) ≤ (k : Int) := Int.natCast_nonneg _
            have hk1 : (k : Int) < (t.args.length : Int) := by omega
            clear hI hold hsw hA' hb4 hz4 hw4' hBw hw f0 f1 HST hs hvl
            go_wp2_with fail
            refine CC.out.mono ?_
            rintro e w5 ⟨a5, c5, rfl, hw5, hI5, hb5⟩
            clear g0 g1 d0 d1 hw4
            obtain ⟨g0, g1, f0, f1⟩ := G5.out w5 hb5
            have HW5 := Lib.hid hw5
            have HI5 := Lib.hid hI5
            have HB5 := Lib.hid hb5
            have hg5 : g < w5.heap.size := by have := hb5.size; have := HZ4.out; omega
            clear hw5 hI5 hb5
            go_wp2
            go_roundw
            case rel =>
              have hx : (t.args.map (T.sub f))[k]? = some (s.sub f) := by rw [List.getElem?_map, HSS.out]; rfl
              have hb5 := HB5.out
              have hI5 := HI5.out
              rw [← HW4.out] at hb5 hI5
              obtain ⟨cur', hI'⟩ := rb_step (ob := tmCells s.head a' s.args.length c') hn hg2 HI.out HSS.out hx hz HW5.out hb5 hI5
              exact ⟨k + 1, _, _, _, cur', by omega, by go_num, hI'⟩
            case measure => simp [intOf]; omega
          · obtain rfl : k = t.args.length := by omega
            obtain ⟨c0, c1, r0, r1, rf0, rf1⟩ := L2.out wr hBw
            have hnew := hI.new
            rw [← List.length_map (f := T.sub f), List.take_length] at hnew
            have hrow : IsRowp (fun b => w.heap.size + 2 ≤ b ∧ b < wr.heap.size) wr (t.args.map (T.sub f)) g 0 := RowVals.isRowp (hnew.keep (fun _ _ => rfl) (fun b hb => ⟨hb.1, hb.2.1⟩)) (fun j u hj => by
              rw [Nat.zero_add]
              exact cell_of_split hI.blk hI.cells (by rw [List.getElem?_append_left (List.getElem?_eq_some_iff.1 hj).1]; exact hj))
            have HROW := Lib.hid hrow
            have HW := Lib.hid hw
            clear hI hBw hw hnew hrow hvl HST
            go_wp2
            refine bodyPost_ret (v := tm t.head (some ⟨g, 0, none⟩) t.args.length c2) (by simp [results, Tryz.results81, go_sem, r0, r1]) rfl ?_
            rw [HSUB.out]
            have hA : IsArgsp (fun b => w.heap.size + 2 ≤ b ∧ b < wr.heap.size) wr (t.args.map (T.sub f)) (some ⟨g, 0, none⟩) c2 := ⟨by simpa using hn1, by unfold maxLen; exact hn2, .inr ⟨g, 0, rfl, ⟨hg2, hgw⟩, HROW.out⟩⟩
            refine ⟨some ⟨g, 0, none⟩, c2, by simp [T.head, T.args], HWF.out, hA.keep (fun b hb => ?_) (fun b hb => ⟨by have := hb.1; omega, by simpa using hb.2⟩), (HW.out.setCell (p := ⟨w.heap.size + 1, 0, none⟩) (by simp) _).setCell (p := ⟨w.heap.size + 1, 1, none⟩) (by simp) _⟩
            have h := hb.1
            exact (Below.heap_setCell _ _ _ _ (by show b ≠ w.heap.size + 1; omega)).trans (Below.heap_setCell _ _ _ _ (by show b ≠ w.heap.size + 1; omega))
end Go.Proofs.YtpncmdlbmnmahaaGreat

/- Ck0: split off Ap0. -/
namespace Go.Proofs.YtpncmdlbmnmahaaGreat
set_option linter.unusedVariables false
set_option linter.unusedSimpArgs false
open Go.RowKit Go.Shelf
set_option maxRecDepth 100000 in
set_option maxHeartbeats 1000000 in
theorem checked_any (x : T) (hx : x.size ≤ 1000000000000) (ok : Nat → Prop) (a : Option Addr) (c : Nat) (w : World) (hok : ∀ b, ok b → b < w.heap.size) (hwf : (Lit.int .i64 x.head).wf = true) (hA : IsArgsp ok w x.args a c) :
    Calls Tryz.prog 80 #[tm x.head a x.args.length c] w (TEPostp ok (endT x) x.check w) := by
  obtain ⟨w2, hw2⟩ : ∃ w2, (w.alloc (tmCells x.head a x.args.length c)).alloc (tmCells 0 none 0 0) = w2 := ⟨_, rfl⟩
  have hB2 : Below w.heap.size w w2 := by rw [← hw2]; exact ((Below.refl _ w).alloc (Nat.le_refl _) _).alloc (by simp) _
  have hs2 : w2.heap.size = w.heap.size + 2 := by rw [← hw2]; simp
  have L2 := Lib.hid (show ∀ W, Below w2.heap.size w2 W → W.cell? ⟨w.heap.size, 0, none⟩ = some (.int .i64 x.head) ∧ W.cell? ⟨w.heap.size, 1, none⟩ = some (.slice a x.args.length c) ∧ W.cell? ⟨w.heap.size + 1, 0, none⟩ = some (.int .i64 0) ∧ W.cell? ⟨w.heap.size + 1, 1, none⟩ = some (.slice none 0 0) ∧ W.frozen? ⟨w.heap.size + 1, 0, none⟩ = false ∧ W.frozen? ⟨w.heap.size + 1, 1, none⟩ = false from fun W hW =>
    ⟨(hW.cell (p := ⟨w.heap.size, 0, none⟩) (by simp; omega)).trans (by rw [← hw2]; simp [go_sem]), (hW.cell (p := ⟨w.heap.size, 1, none⟩) (by simp; omega)).trans (by rw [← hw2]; simp [go_sem]), (hW.cell (p := ⟨w.heap.size + 1, 0, none⟩) (by simp; omega)).trans (by rw [← hw2]; simp [go_sem]), (hW.cell (p := ⟨w.heap.size + 1, 1, none⟩) (by simp; omega)).trans (by rw [← hw2]; simp [go_sem]), (hW.frozen (p := ⟨w.heap.size + 1, 0, none⟩) (by simp; omega)).trans (by rw [← hw2]; simp [go_sem]), (hW.frozen (p := ⟨w.heap.size + 1, 1, none⟩) (by simp; omega)).trans (by rw [← hw2]; simp [go_sem])⟩)
  have CC := Lib.hid (check_any x hx w.heap.size a c w2 (by omega) hwf ((hA.toArgs hok).below hB2))
  have HW := Lib.hid hwf
  have HA := Lib.hid hA
  have HB2 := Lib.hid hB2
  clear hwf hA hB2 hs2
  obtain ⟨c0, c1, _, _, _, _⟩ := L2.out w2 (Below.refl _ _)
  go_enter Tryz.func80, Tryz.ntmps80
  go_wp2_with fail
  refine CC.out.mono ?_
  rintro e w3 ⟨rfl, hb3⟩
  clear c0 c1 hw2
  obtain ⟨c0, c1, r0, r1, rf0, rf1⟩ := L2.out w3 hb3
  have HB3 := Lib.hid (HB2.out.trans (hb3.mono HB2.out.size))
  have hz3 : w.heap.size ≤ w3.heap.size := HB3.out.size
  clear hb3
  have HE := Lib.hid (show endT x = if x.check = 0 then x else Z0 from rfl)
  by_cases q : x.check = 0
  · rw [q]
    have he : endT x = x := by unfold endT; rw [if_pos q]
    go_wp2
    refine bodyPost_ret (v := .tuple #[tm x.head a x.args.length c, .int .i64 0]) (by simp [results, Tryz.results80, go_sem, r0, r1]) rfl ?_
    first | rw [he, q] | rw [he] | rw [q] | skip
    exact ⟨a, c, rfl, HW.out, HA.out.keep (fun b hb => ((Below.heap_setCell _ _ _ _ (by have := hok b hb; show b ≠ w.heap.size + 1; omega)).trans (Below.heap_setCell _ _ _ _ (by have := hok b hb; show b ≠ w.heap.size + 1; omega))).trans (HB3.out.block b (hok b hb))) (fun b hb => hb), (HB3.out.setCell (p := ⟨w.heap.size + 1, 0, none⟩) (by simp) _).setCell (p := ⟨w.heap.size + 1, 1, none⟩) (by simp) _⟩
  · have he : endT x = Z0 := by unfold endT; rw [if_neg q]
    generalize hk : x.check = k at q he ⊢
    have HK := Lib.hid hk
    clear hk
    have hne : (k == 0) = false := by simpa using q
    go_wp2
    refine bodyPost_ret (v := .tuple #[tm 0 none 0 0, .int .i64 k]) (by simp [results, Tryz.results80, go_sem, r0, r1]) rfl ?_
    first | rw [he, HK.out] | rw [HK.out] | rw [he] | skip
    exact ⟨none, 0, rfl, wf_z0, isArgsp_z _ _, (HB3.out.setCell (p := ⟨w.heap.size + 1, 0, none⟩) (by simp) _).setCell (p := ⟨w.heap.size + 1, 1, none⟩) (by simp) _⟩
end Go.Proofs.YtpncmdlbmnmahaaGreat

/- Wv0: split off SO0. -/
namespace Go.Proofs.YtpncmdlbmnmahaaGreat
set_option linter.unusedVariables false
set_option linter.unusedSimpArgs false
open Go.RowKit
theorem wf_vt {v : Int} (h1 : -9223372036854775808 ≤ v) (h2 : v ≤ 9223372036854775807) : (Lit.int .i64 (vt v).head).wf = true :=
  WalkArith.wf_i64 ⟨by show -9223372036854775808 ≤ -1 - v; omega, by show -1 - v ≤ 9223372036854775807; omega⟩
end Go.Proofs.YtpncmdlbmnmahaaGreat

/- Of2: split off SO0. -/
namespace Go.Proofs.YtpncmdlbmnmahaaGreat
set_option linter.unusedVariables false
set_option linter.unusedSimpArgs false
open Go.RowKit
def OfPost (n₀ : Nat) (x : T) (w : World) (e : Ending) (w' : World) : Prop :=
  ∃ a c, e = .returned (tm x.head a x.args.length c) ∧ (Lit.int .i64 x.head).wf = true ∧ IsArgs n₀ w' x.args a c ∧ Below w.heap.size w w'
def OfI (s : Sb) (v : Int) (w w1 : World) (i : Value) (wr : World) : Prop := ∃ k : Nat, k ≤ s.length ∧ i = .int .i64 k ∧ ofS s v = ofS (s.drop k) v ∧ Below (w.heap.size + 1) w1 wr
end Go.Proofs.YtpncmdlbmnmahaaGreat

/- Sv1: split off Sb. -/
namespace Go.Proofs.YtpncmdlbmnmahaaGreat
set_option linter.unusedVariables false
set_option linter.unusedSimpArgs false
open Go.RowKit
theorem sVariable_any (v : Int) (w : World) (h1 : -9223372036854775808 ≤ v) (h2 : v ≤ 9223372036854775807) :
    Calls Tryz.prog 114 #[.int .i64 v] w fun e w' => e = .returned (tm (-1 - v) none 0 0) ∧ Below w.heap.size w w' := by
  go_enter Tryz.func114, Tryz.ntmps114
  go_wp2
  exact bodyPost_ret (v := tm (-1 - v) none 0 0) (by simp [results, Tryz.results114, go_sem]) rfl ⟨rfl, ((Below.refl _ _).alloc (Nat.le_refl _) _)⟩
end Go.Proofs.YtpncmdlbmnmahaaGreat

/- Substitutions: small contracts of the program. -/
namespace Go.Proofs.YtpncmdlbmnmahaaGreat
set_option linter.unusedVariables false
set_option linter.unusedSimpArgs false
open Go.RowKit
/-! ### Small contracts -/
theorem sIsVar_any (h : Int) (a : Option Addr) (k c : Nat) (v : Int) (w : World) (h1 : -9223372036854775808 ≤ v) (h2 : v ≤ 9223372036854775807) :
    Calls Tryz.prog 110 #[tm h a k c, .int .i64 v] w fun e w' => e = .returned (.bool (decide (h = -1 - v))) ∧ Below w.heap.size w w' := by
  have hb := (Below.refl w.heap.size w).alloc (Nat.le_refl _) (tmCells h a k c)
  have HB := Lib.hid hb
  clear hb
  go_enter Tryz.func110, Tryz.ntmps110
  go_wp2
  go_ret
  refine ⟨?_, HB.out⟩
  congr 2
end Go.Proofs.YtpncmdlbmnmahaaGreat

/- SO0: of SOf, what names no reference. -/
/- Contracts of Of, of the program and of the reference. -/
namespace Go.Proofs.YtpncmdlbmnmahaaGreat
set_option linter.unusedVariables false
set_option linter.unusedSimpArgs false
open Go.RowKit
def CkI (s : Sb) (w : World) (l i : Value) (wr : World) : Prop := ∃ (k : Nat) (z : Int), k ≤ s.length ∧ i = .int .i64 k ∧ l = .int .i64 z ∧ 0 ≤ z ∧ z ≤ 256 ∧ rightS 0 s = rightS z (s.drop k) ∧ Below w.heap.size w wr
def errS (s : Sb) : Int := if rightS 0 s then 0 else 1
set_option maxRecDepth 100000 in
set_option maxHeartbeats 1000000 in
theorem sCheck_any (s : Sb) (hsz : ∀ x ∈ s, x.2.size ≤ 1000000000000) (n₀ : Nat) (a : Option Addr) (c : Nat) (w : World) (hn : n₀ ≤ w.heap.size) (hS : IsBs n₀ w s a c) :
    Calls Tryz.prog 78 #[.slice a s.length c] w fun e w' => e = .returned (.int .i64 (errS s)) ∧ Below w.heap.size w w' := by
  have hl : s.length ≤ c ∧ c ≤ maxLen := ⟨hS.1, hS.2.1⟩
  unfold maxLen at hl
  obtain ⟨hl1, hl2⟩ := hl
  have HS := Lib.hid hS
  have HZ := Lib.hid hsz
  clear hS hsz
  go_enter Tryz.func78, Tryz.ntmps78
  go_wp2
  go_loopw [3, 8] (fun l i wr => CkI s w l i wr) (fun _ i _ => s.length - (intOf i).toNat)
  case atStart => exact ⟨0, 0, Nat.zero_le _, rfl, rfl, by omega, by omega, rfl, Below.refl _ _⟩
  case round =>
    obtain ⟨k, z, hk, rfl, rfl, hz0, hz1, hrt, hB⟩ := hrel
    have HR := Lib.hid hrt
    have HB := Lib.hid hB
    have hbz := hB.size
    clear hrt hB
    by_cases hlt : k < s.length
    · obtain ⟨b, o, x, t, a', c', rfl, hbn, hsk, hxw, htw, hc0, hc1, hc2, hA'⟩ := (HS.out.below (HB.out.mono hn)).elem (i := k) hlt
      have hk0 : (0 : Int) ≤ (k : Int) := Int.natCast_nonneg _
      have hk1 : (k : Int) < (s.length : Int) := by omega
      have HSK := Lib.hid (rightS_step (l := z) hsk)
      have hts : t.size ≤ 1000000000000 := HZ.out (x, t) (List.mem_of_getElem? hsk)
      have HTW := Lib.hid htw
      obtain ⟨hx1, hx2⟩ := wf_low hxw
      have hbw : b < wr.heap.size := by omega
      obtain ⟨w2, hw2⟩ : ∃ w2, wr.alloc (.cells #[.int .i64 x, .int .i64 t.head, .slice a' t.args.length c'] 53) = w2 := ⟨_, rfl⟩
      have hb2 : Below wr.heap.size wr w2 := by rw [← hw2]; exact (Below.refl _ _).alloc (Nat.le_refl _) _
      have L2 := Lib.hid (show ∀ W, Below w2.heap.size w2 W → W.cell? ⟨wr.heap.size, 0, none⟩ = some (.int .i64 x) ∧ W.cell? ⟨wr.heap.size, 1, none⟩ = some (.int .i64 t.head) ∧ W.cell? ⟨wr.heap.size, 2, none⟩ = some (.slice a' t.args.length c') from fun W hW =>
        ⟨(hW.cell (p := ⟨wr.heap.size, 0, none⟩) (by rw [← hw2]; simp)).trans (by rw [← hw2]; simp [go_sem]), (hW.cell (p := ⟨wr.heap.size, 1, none⟩) (by rw [← hw2]; simp)).trans (by rw [← hw2]; simp [go_sem]), (hW.cell (p := ⟨wr.heap.size, 2, none⟩) (by rw [← hw2]; simp)).trans (by rw [← hw2]; simp [go_sem])⟩)
      have HB2 := Lib.hid (HB.out.trans (hb2.mono hbz))
      have hAw := hA'.below (hb2.mono (by omega))
      have HA' := Lib.hid (show IsArgs w2.heap.size w2 t.args a' c' from hAw.mono (by have := hb2.size; omega))
      clear hsk htw hxw hA' hAw hb2
      by_cases q1 : x < z
      · have hd : errS s = 1 := by unfold errS; rw [HR.out, HSK.out, decide_eq_false (show ¬ z ≤ x from by omega)]; simp
        have HF := Lib.hid (show ∀ o, Below w.heap.size w (wr.alloc o) from fun o => HB.out.alloc hbz _)
        clear hw2 L2
        go_wp2
        go_ret
        exact ⟨by first | (rw [hd]; rfl) | rfl, HF.out _⟩
      by_cases q2 : 255 < x
      · have hd : errS s = 1 := by unfold errS; rw [HR.out, HSK.out, decide_eq_false (show ¬ x ≤ 255 from by omega)]; simp
        have HF := Lib.hid (show ∀ o, Below w.heap.size w (wr.alloc o) from fun o => HB.out.alloc hbz _)
        clear hw2 L2
        go_wp2
        go_ret
        exact ⟨by first | (rw [hd]; rfl) | rfl, HF.out _⟩
      obtain ⟨d0, d1, d2⟩ := L2.out w2 (Below.refl _ _)
      go_wp2_with fail
      clear hw2 hc0 hc1 hc2 d0 d1 d2
      refine (check_any t hts w2.heap.size a' c' w2 (Nat.le_refl _) HTW.out HA'.out).mono ?_
      rintro e w3 ⟨rfl, hb3⟩
      have HB3 := Lib.hid (HB2.out.trans (hb3.mono HB2.out.size))
      obtain ⟨d0, d1, d2⟩ := L2.out w3 hb3
      by_cases q3 : t.check = 0
      · rw [q3]
        go_wp2_with fail
        clear d0 d1 d2
        refine (sIsVar_any t.head a' t.args.length c' x w3 hx1 hx2).mono ?_
        rintro e w4 ⟨rfl, hb4⟩
        have HB4 := Lib.hid (HB3.out.trans (hb4.mono HB3.out.size))
        obtain ⟨d0, d1, d2⟩ := L2.out w4 (hb3.trans (hb4.mono hb3.size))
        clear hb3 hb4
        by_cases q4 : t.head = -1 - x
        · have hd : errS s = 1 := by unfold errS; rw [HR.out, HSK.out, decide_eq_false (show ¬ t.head ≠ -1 - x from fun h => h q4)]; simp
          rw [decide_eq_true q4]
          go_wp2
          go_ret
          exact ⟨by first | (rw [hd]; rfl) | rfl, HB4.out⟩
        · rw [decide_eq_false q4]
          go_wp2
          go_roundw
          case rel =>
            refine ⟨k + 1, x + 1, by omega, by go_num, rfl, by omega, by omega, ?_, HB4.out⟩
            rw [HR.out, HSK.out, decide_eq_true (show z ≤ x from by omega), decide_eq_true (show x ≤ 255 from by omega), decide_eq_true q3, decide_eq_true (show t.head ≠ -1 - x from q4)]
            simp
          case measure => simp [intOf]; omega
      · have hd : errS s = 1 := by unfold errS; rw [HR.out, HSK.out, decide_eq_false q3]; simp
        have hne : (t.check == 0) = false := by simpa using q3
        clear hb3
        go_wp2
        go_ret
        exact ⟨by first | (rw [hd]; rfl) | rfl, HB3.out⟩
    · have hd : errS s = 0 := by unfold errS; rw [HR.out, List.drop_of_length_le (by omega)]; rfl
      go_wp2
      go_ret
      exact ⟨by first | (rw [hd]; rfl) | rfl, HB.out⟩
end Go.Proofs.YtpncmdlbmnmahaaGreat
