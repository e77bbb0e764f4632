/- Variables of type Lit that are written; copies that are kept. -/
import Derived.Test.YtbdabdjpgmnejaaGreatQDa
import Derived.Test.YtbdabdjpgmnejaaGreatQBp
namespace Go.Proofs.YtbdabdjpgmnejaaGreat
set_option linter.unusedVariables false
set_option linter.unusedSimpArgs false
open Go.RowKit

/-- A variable of type Lit: its block. -/
def Bo (b : Nat) (x : LV) (X : World) : Prop :=
  X.heap[b]? = some (.cells #[.bool x.n, .int .i64 x.l.head, .slice x.pa x.l.args.length x.ca, .int .i64 x.r.head, .slice x.pb x.r.args.length x.cb] 36 (0, 0))
theorem Bo.lc {b : Nat} {x : LV} {X : World} (h : Bo b x X) : Lc b x X := by
  unfold Bo at h
  refine ⟨?_, ?_, ?_, ?_, ?_⟩ <;> simp [World.cell?, h]
theorem Bo.lf {b : Nat} {x : LV} {X : World} (h : Bo b x X) : X.frozen? ⟨b, 0, none⟩ = false ∧ X.frozen? ⟨b, 1, none⟩ = false ∧ X.frozen? ⟨b, 2, none⟩ = false ∧ X.frozen? ⟨b, 3, none⟩ = false ∧ X.frozen? ⟨b, 4, none⟩ = false := by
  unfold Bo at h
  refine ⟨?_, ?_, ?_, ?_, ?_⟩ <;> simp [World.frozen?, h]
theorem Bo.lt {b : Nat} {x : LV} {X : World} (h : Bo b x X) : b < X.heap.size := (Array.getElem?_eq_some_iff.1 h).1
theorem later_bo (W : World) (x : LV) : Later (Bo W.heap.size x) (W.alloc x.obj) := fun X hX => by
  unfold Bo
  rw [hX.block _ (by simp)]
  show (W.heap.push x.obj)[W.heap.size]? = _
  simp
theorem Later.pushB {F : World → Prop} {W W' : World} (k : Later F W) (hb : Below W.heap.size W W') (x : LV) : Later (fun X => Bo W'.heap.size x X ∧ F X) (W'.alloc x.obj) :=
  (k.mv (hb.alloc hb.size _)).and (later_bo W' x)
theorem Bo.swap {b : Nat} {x : LV} {X : World} (h : Bo b x X) : Bo b x.turn ((((X.setCell ⟨b, 1, none⟩ (.int .i64 x.r.head)).setCell ⟨b, 2, none⟩ (.slice x.pb x.r.args.length x.cb)).setCell ⟨b, 3, none⟩ (.int .i64 x.l.head)).setCell ⟨b, 4, none⟩ (.slice x.pa x.l.args.length x.ca)) := by
  have h1 := heap_setCell_same (o := 1) h (.int .i64 x.r.head)
  have h2 := heap_setCell_same (o := 2) h1 (.slice x.pb x.r.args.length x.cb)
  have h3 := heap_setCell_same (o := 3) h2 (.int .i64 x.l.head)
  have h4 := heap_setCell_same (o := 4) h3 (.slice x.pa x.l.args.length x.ca)
  exact h4
theorem Bo.other {b b' o : Nat} {x : LV} {X : World} {u : Value} (h : Bo b x X) (hne : b ≠ b') : Bo b x (X.setCell ⟨b', o, none⟩ u) := by
  unfold Bo at *
  rw [Below.heap_setCell _ _ _ _ hne]; exact h

/-- The zero literal. -/
def LV.zero : LV := ⟨false, .node 0 [], .node 0 [], none, 0, none, 0⟩
theorem lv_zero (n : Nat) (X : World) : IsLv n X LV.zero := ⟨by decide, by decide, ⟨by simp [LV.zero, T.args], by simp [LV.zero, maxLen], .inl rfl⟩, ⟨by simp [LV.zero, T.args], by simp [LV.zero, maxLen], .inl rfl⟩⟩

/-- Terms whose blocks are all at n or behind: they last as long as these do. -/
def Kp (n : Nat) (u : World) (ts : List T) (a : Option Addr) (c : Nat) : Prop := ∀ X : World, u.heap.size ≤ X.heap.size → (∀ b, n ≤ b → b < u.heap.size → X.heap[b]? = u.heap[b]?) → IsArgs X.heap.size X ts a c
theorem kp_of {m n : Nat} {u : World} {ts : List T} {a : Option Addr} {c : Nat} (h : IsArgsp (fun b => m ≤ b ∧ Blk u b) u ts a c) (hn : n ≤ m) : Kp n u ts a c := fun X hs hb =>
  (h.keep (ok' := fun b => b < X.heap.size) (fun b hk => hb b (Nat.le_trans hn hk.1) hk.2.lt) (fun b hk => Nat.lt_of_lt_of_le hk.2.lt hs)).toArgs (fun _ h => h)
theorem Kp.mv {n : Nat} {u v : World} {ts : List T} {a : Option Addr} {c : Nat} (h : Kp n u ts a c) (hb : Below u.heap.size u v) : Kp n v ts a c := fun X hs hx =>
  h X (Nat.le_trans hb.size hs) fun b h1 h2 => (hx b h1 (Nat.lt_of_lt_of_le h2 hb.size)).trans (hb.block b h2)
theorem Kp.sets {n : Nat} {u : World} {ts : List T} {a : Option Addr} {c : Nat} (h : Kp n u ts a c) {b : Nat} (hb : b < n) (v0 v1 v2 v3 v4 : Value) :
    IsArgs (((((u.setCell ⟨b, 0, none⟩ v0).setCell ⟨b, 1, none⟩ v1).setCell ⟨b, 2, none⟩ v2).setCell ⟨b, 3, none⟩ v3).setCell ⟨b, 4, none⟩ v4).heap.size (((((u.setCell ⟨b, 0, none⟩ v0).setCell ⟨b, 1, none⟩ v1).setCell ⟨b, 2, none⟩ v2).setCell ⟨b, 3, none⟩ v3).setCell ⟨b, 4, none⟩ v4) ts a c :=
  h _ (by simp) fun k h1 h2 => by
    have hne : k ≠ b := by omega
    rw [Below.heap_setCell _ _ _ _ hne, Below.heap_setCell _ _ _ _ hne, Below.heap_setCell _ _ _ _ hne, Below.heap_setCell _ _ _ _ hne, Below.heap_setCell _ _ _ _ hne]
theorem bl_sets {n b : Nat} {w u : World} (h : Below n w u) (hb : n ≤ b) (v0 v1 v2 v3 v4 : Value) : Below n w (((((u.setCell ⟨b, 0, none⟩ v0).setCell ⟨b, 1, none⟩ v1).setCell ⟨b, 2, none⟩ v2).setCell ⟨b, 3, none⟩ v3).setCell ⟨b, 4, none⟩ v4) :=
  ((((h.setCell (p := ⟨b, 0, none⟩) hb v0).setCell (p := ⟨b, 1, none⟩) hb v1).setCell (p := ⟨b, 2, none⟩) hb v2).setCell (p := ⟨b, 3, none⟩) hb v3).setCell (p := ⟨b, 4, none⟩) hb v4

/-! ### What Orient answers -/
def ornN (g : Sg) (n : Bool) (l r : T) : Bool := if errL g l r = 0 then n else false
def ornL (g : Sg) (l r : T) : T := if errL g l r = 0 then oriA g l r else .node 0 []
def ornR (g : Sg) (l r : T) : T := if errL g l r = 0 then oriB g l r else .node 0 []
/-- A literal in memory of its own, with an error. -/
def LePost (n : Bool) (l r : T) (k : Int) (w : World) (e : Ending) (w' : World) : Prop :=
  ∃ z : LV, e = .returned (.tuple #[z.v, .int .i64 k]) ∧ z.n = n ∧ z.l = l ∧ z.r = r ∧ IsLv w'.heap.size w' z ∧ Below w.heap.size w w'
/-- .. in blocks that the call made. -/
def LkPost (n : Bool) (l r : T) (k : Int) (w : World) (e : Ending) (w' : World) : Prop :=
  ∃ z : LV, e = .returned (.tuple #[z.v, .int .i64 k]) ∧ z.n = n ∧ z.l = l ∧ z.r = r ∧ (Lit.int .i64 z.l.head).wf = true ∧ (Lit.int .i64 z.r.head).wf = true ∧ Kp w.heap.size w' z.l.args z.pa z.ca ∧ Kp w.heap.size w' z.r.args z.pb z.cb ∧ Below w.heap.size w w'
theorem Kp.now {n : Nat} {u : World} {ts : List T} {a : Option Addr} {c : Nat} (h : Kp n u ts a c) : IsArgs u.heap.size u ts a c := h u (Nat.le_refl _) (fun _ _ _ => rfl)
theorem Kp.mono {n m : Nat} {u : World} {ts : List T} {a : Option Addr} {c : Nat} (h : Kp n u ts a c) (hm : m ≤ n) : Kp m u ts a c := fun X hs hb => h X hs fun b h1 h2 => hb b (Nat.le_trans hm h1) h2
theorem Kp.setK {n : Nat} {u : World} {ts : List T} {a : Option Addr} {c : Nat} (h : Kp n u ts a c) {b o : Nat} (hb : b < n) (v : Value) : Kp n (u.setCell ⟨b, o, none⟩ v) ts a c := fun X hs hx =>
  h X (by simpa using hs) fun k h1 h2 => by
    rw [hx k h1 (by simpa using h2), Below.heap_setCell _ _ _ _ (show k ≠ b by omega)]
theorem Kp.setsK {n : Nat} {u : World} {ts : List T} {a : Option Addr} {c : Nat} (h : Kp n u ts a c) {b : Nat} (hb : b < n) (v0 v1 v2 v3 v4 : Value) :
    Kp n (((((u.setCell ⟨b, 0, none⟩ v0).setCell ⟨b, 1, none⟩ v1).setCell ⟨b, 2, none⟩ v2).setCell ⟨b, 3, none⟩ v3).setCell ⟨b, 4, none⟩ v4) ts a c :=
  ((((h.setK hb v0).setK hb v1).setK hb v2).setK hb v3).setK hb v4
theorem kp_nil (n : Nat) (u : World) (a : Option Addr) {c : Nat} (hc : c ≤ maxLen) : Kp n u [] a c := fun X _ _ => ⟨by simp, hc, .inl rfl⟩
theorem LkPost.le {n : Bool} {l r : T} {k : Int} {w w' : World} {e : Ending} (h : LkPost n l r k w e w') : LePost n l r k w e w' := by
  obtain ⟨z, h1, h2, h3, h4, h5, h6, h7, h8, h9⟩ := h
  exact ⟨z, h1, h2, h3, h4, ⟨h5, h6, h7.now, h8.now⟩, h9⟩
/-- A variable of type Lit that holds something. -/
def Zb (b : Nat) (X : World) : Prop := ∃ v0 v1 v2 v3 v4 : Value, X.heap[b]? = some (.cells #[v0, v1, v2, v3, v4] 36 (0, 0))
theorem Bo.zb {b : Nat} {x : LV} {X : World} (h : Bo b x X) : Zb b X := ⟨_, _, _, _, _, h⟩
theorem Zb.bl {b : Nat} {X u : World} (h : Zb b X) (hu : Below X.heap.size X u) : Zb b u := by
  obtain ⟨v0, v1, v2, v3, v4, h⟩ := h
  exact ⟨v0, v1, v2, v3, v4, (hu.block b (Array.getElem?_eq_some_iff.1 h).1).trans h⟩
theorem Zb.sets {b : Nat} {X : World} (h : Zb b X) (u0 u1 u2 u3 u4 : Value) : Zb b (((((X.setCell ⟨b, 0, none⟩ u0).setCell ⟨b, 1, none⟩ u1).setCell ⟨b, 2, none⟩ u2).setCell ⟨b, 3, none⟩ u3).setCell ⟨b, 4, none⟩ u4) := by
  obtain ⟨v0, v1, v2, v3, v4, h⟩ := h
  have h0 := heap_setCell_same (o := 0) h u0
  have h1 := heap_setCell_same (o := 1) h0 u1
  have h2 := heap_setCell_same (o := 2) h1 u2
  have h3 := heap_setCell_same (o := 3) h2 u3
  have h4 := heap_setCell_same (o := 4) h3 u4
  exact ⟨_, _, _, _, _, h4⟩
theorem Zb.dr {b : Nat} {X : World} (h : Zb b X) : Zb b X.drew := h
theorem Zb.all {b : Nat} {X : World} (h : Zb b X) : ∃ v0 v1 v2 v3 v4 : Value, X.cell? ⟨b, 0, none⟩ = some v0 ∧ X.cell? ⟨b, 1, none⟩ = some v1 ∧ X.cell? ⟨b, 2, none⟩ = some v2 ∧ X.cell? ⟨b, 3, none⟩ = some v3 ∧ X.cell? ⟨b, 4, none⟩ = some v4 ∧
    X.frozen? ⟨b, 0, none⟩ = false ∧ X.frozen? ⟨b, 1, none⟩ = false ∧ X.frozen? ⟨b, 2, none⟩ = false ∧ X.frozen? ⟨b, 3, none⟩ = false ∧ X.frozen? ⟨b, 4, none⟩ = false := by
  obtain ⟨v0, v1, v2, v3, v4, h⟩ := h
  refine ⟨v0, v1, v2, v3, v4, ?_, ?_, ?_, ?_, ?_, ?_, ?_, ?_, ?_, ?_⟩ <;> simp [World.cell?, World.frozen?, h]
theorem Zb.new (W : World) (v0 v1 v2 v3 v4 : Value) : Zb W.heap.size (W.alloc (.cells #[v0, v1, v2, v3, v4] 36)) := ⟨v0, v1, v2, v3, v4, by
  show (W.heap.push _)[W.heap.size]? = _
  simp⟩
theorem Zb.lt {b : Nat} {X : World} (h : Zb b X) : b < X.heap.size := by
  obtain ⟨_, _, _, _, _, h⟩ := h
  exact (Array.getElem?_eq_some_iff.1 h).1
/-- A literal that was laid into a variable. -/
theorem Zb.lc {b : Nat} {X : World} (h : Zb b X) (z : LV) : Lc b z (((((X.setCell ⟨b, 0, none⟩ (.bool z.n)).setCell ⟨b, 1, none⟩ (.int .i64 z.l.head)).setCell ⟨b, 2, none⟩ (.slice z.pa z.l.args.length z.ca)).setCell ⟨b, 3, none⟩ (.int .i64 z.r.head)).setCell ⟨b, 4, none⟩ (.slice z.pb z.r.args.length z.cb)) := by
  obtain ⟨v0, v1, v2, v3, v4, h⟩ := h
  have h0 := heap_setCell_same (o := 0) h (.bool z.n)
  have h1 := heap_setCell_same (o := 1) h0 (.int .i64 z.l.head)
  have h2 := heap_setCell_same (o := 2) h1 (.slice z.pa z.l.args.length z.ca)
  have h3 := heap_setCell_same (o := 3) h2 (.int .i64 z.r.head)
  have h4 := heap_setCell_same (o := 4) h3 (.slice z.pb z.r.args.length z.cb)
  exact Bo.lc h4

end Go.Proofs.YtbdabdjpgmnejaaGreat
