/- QDb: joined of Lb, Lor. -/
import Derived.Test.YtleohdddaadbeaaGreatQDa
import Derived.Test.YtleohdddaadbeaaGreatCopy
import Derived.Test.YtleohdddaadbeaaGreatLck
import Derived.Test.YtleohdddaadbeaaGreatKco
import Derived.Test.YtleohdddaadbeaaGreatQBm
import Derived.BigQuiet
import Derived.Deep.QuietTactic
import Derived.Deep.RegionLaw
import Derived.Deep.RegionHeld3
/- Variables of type Lit that are written; copies that are kept. -/
namespace Go.Proofs.YtleohdddaadbeaaGreat
set_option linter.unusedVariables false
set_option linter.unusedSimpArgs false
open Go.RowKit

/-- A variable of type Lit: its block. -/
def Bo (b : Nat) (x : LV) (X : World) : Prop :=
  X.heap[b]? = some (.cells #[.bool x.n, .int .i64 x.l.head, .slice x.pa x.l.args.length x.ca, .int .i64 x.r.head, .slice x.pb x.r.args.length x.cb] 27 (0, 0))
theorem Bo.lc {b : Nat} {x : LV} {X : World} (h : Bo b x X) : Lc b x X := by
  unfold Bo at h
  refine ⟨?_, ?_, ?_, ?_, ?_⟩ <;> simp [World.cell?, h]
theorem Bo.lf {b : Nat} {x : LV} {X : World} (h : Bo b x X) : X.frozen? ⟨b, 0, none⟩ = false ∧ X.frozen? ⟨b, 1, none⟩ = false ∧ X.frozen? ⟨b, 2, none⟩ = false ∧ X.frozen? ⟨b, 3, none⟩ = false ∧ X.frozen? ⟨b, 4, none⟩ = false := by
  unfold Bo at h
  refine ⟨?_, ?_, ?_, ?_, ?_⟩ <;> simp [World.frozen?, h]
theorem Bo.lt {b : Nat} {x : LV} {X : World} (h : Bo b x X) : b < X.heap.size := (Array.getElem?_eq_some_iff.1 h).1
theorem later_bo (W : World) (x : LV) : Later (Bo W.heap.size x) (W.alloc x.obj) := fun X hX => by
  unfold Bo
  rw [hX.block _ (by simp)]
  show (W.heap.push x.obj)[W.heap.size]? = _
  simp
theorem Later.pushB {F : World → Prop} {W W' : World} (k : Later F W) (hb : Below W.heap.size W W') (x : LV) : Later (fun X => Bo W'.heap.size x X ∧ F X) (W'.alloc x.obj) :=
  (k.mv (hb.alloc hb.size _)).and (later_bo W' x)
theorem Bo.swap {b : Nat} {x : LV} {X : World} (h : Bo b x X) : Bo b x.turn ((((X.setCell ⟨b, 1, none⟩ (.int .i64 x.r.head)).setCell ⟨b, 2, none⟩ (.slice x.pb x.r.args.length x.cb)).setCell ⟨b, 3, none⟩ (.int .i64 x.l.head)).setCell ⟨b, 4, none⟩ (.slice x.pa x.l.args.length x.ca)) := by
  have h1 := heap_setCell_same (o := 1) h (.int .i64 x.r.head)
  have h2 := heap_setCell_same (o := 2) h1 (.slice x.pb x.r.args.length x.cb)
  have h3 := heap_setCell_same (o := 3) h2 (.int .i64 x.l.head)
  have h4 := heap_setCell_same (o := 4) h3 (.slice x.pa x.l.args.length x.ca)
  exact h4
theorem Bo.other {b b' o : Nat} {x : LV} {X : World} {u : Value} (h : Bo b x X) (hne : b ≠ b') : Bo b x (X.setCell ⟨b', o, none⟩ u) := by
  unfold Bo at *
  rw [Below.heap_setCell _ _ _ _ hne]; exact h

/-- The zero literal. -/
def LV.zero : LV := ⟨false, .node 0 [], .node 0 [], none, 0, none, 0⟩
theorem lv_zero (n : Nat) (X : World) : IsLv n X LV.zero := ⟨by decide, by decide, ⟨by simp [LV.zero, T.args], by simp [LV.zero, maxLen], .inl rfl⟩, ⟨by simp [LV.zero, T.args], by simp [LV.zero, maxLen], .inl rfl⟩⟩

/-- Terms whose blocks are all at n or behind: they last as long as these do. -/
def Kp (n : Nat) (u : World) (ts : List T) (a : Option Addr) (c : Nat) : Prop := ∀ X : World, u.heap.size ≤ X.heap.size → (∀ b, n ≤ b → b < u.heap.size → X.heap[b]? = u.heap[b]?) → IsArgs X.heap.size X ts a c
theorem kp_of {m n : Nat} {u : World} {ts : List T} {a : Option Addr} {c : Nat} (h : IsArgsp (fun b => m ≤ b ∧ Blk u b) u ts a c) (hn : n ≤ m) : Kp n u ts a c := fun X hs hb =>
  (h.keep (ok' := fun b => b < X.heap.size) (fun b hk => hb b (Nat.le_trans hn hk.1) hk.2.lt) (fun b hk => Nat.lt_of_lt_of_le hk.2.lt hs)).toArgs (fun _ h => h)
theorem Kp.mv {n : Nat} {u v : World} {ts : List T} {a : Option Addr} {c : Nat} (h : Kp n u ts a c) (hb : Below u.heap.size u v) : Kp n v ts a c := fun X hs hx =>
  h X (Nat.le_trans hb.size hs) fun b h1 h2 => (hx b h1 (Nat.lt_of_lt_of_le h2 hb.size)).trans (hb.block b h2)
theorem Kp.sets {n : Nat} {u : World} {ts : List T} {a : Option Addr} {c : Nat} (h : Kp n u ts a c) {b : Nat} (hb : b < n) (v0 v1 v2 v3 v4 : Value) :
    IsArgs (((((u.setCell ⟨b, 0, none⟩ v0).setCell ⟨b, 1, none⟩ v1).setCell ⟨b, 2, none⟩ v2).setCell ⟨b, 3, none⟩ v3).setCell ⟨b, 4, none⟩ v4).heap.size (((((u.setCell ⟨b, 0, none⟩ v0).setCell ⟨b, 1, none⟩ v1).setCell ⟨b, 2, none⟩ v2).setCell ⟨b, 3, none⟩ v3).setCell ⟨b, 4, none⟩ v4) ts a c :=
  h _ (by simp) fun k h1 h2 => by
    have hne : k ≠ b := by omega
    rw [Below.heap_setCell _ _ _ _ hne, Below.heap_setCell _ _ _ _ hne, Below.heap_setCell _ _ _ _ hne, Below.heap_setCell _ _ _ _ hne, Below.heap_setCell _ _ _ _ hne]
theorem bl_sets {n b : Nat} {w u : World} (h : Below n w u) (hb : n ≤ b) (v0 v1 v2 v3 v4 : Value) : Below n w (((((u.setCell ⟨b, 0, none⟩ v0).setCell ⟨b, 1, none⟩ v1).setCell ⟨b, 2, none⟩ v2).setCell ⟨b, 3, none⟩ v3).setCell ⟨b, 4, none⟩ v4) :=
  ((((h.setCell (p := ⟨b, 0, none⟩) hb v0).setCell (p := ⟨b, 1, none⟩) hb v1).setCell (p := ⟨b, 2, none⟩) hb v2).setCell (p := ⟨b, 3, none⟩) hb v3).setCell (p := ⟨b, 4, none⟩) hb v4

/-! ### What Orient answers -/
def ornN (g : Sg) (n : Bool) (l r : T) : Bool := if errL g l r = 0 then n else false
def ornL (g : Sg) (l r : T) : T := if errL g l r = 0 then oriA g l r else .node 0 []
def ornR (g : Sg) (l r : T) : T := if errL g l r = 0 then oriB g l r else .node 0 []
/-- A literal in memory of its own, with an error. -/
def LePost (n : Bool) (l r : T) (k : Int) (w : World) (e : Ending) (w' : World) : Prop :=
  ∃ z : LV, e = .returned (.tuple #[z.v, .int .i64 k]) ∧ z.n = n ∧ z.l = l ∧ z.r = r ∧ IsLv w'.heap.size w' z ∧ Below w.heap.size w w'
/-- .. in blocks that the call made. -/
def LkPost (n : Bool) (l r : T) (k : Int) (w : World) (e : Ending) (w' : World) : Prop :=
  ∃ z : LV, e = .returned (.tuple #[z.v, .int .i64 k]) ∧ z.n = n ∧ z.l = l ∧ z.r = r ∧ (Lit.int .i64 z.l.head).wf = true ∧ (Lit.int .i64 z.r.head).wf = true ∧ Kp w.heap.size w' z.l.args z.pa z.ca ∧ Kp w.heap.size w' z.r.args z.pb z.cb ∧ Below w.heap.size w w'
theorem Kp.now {n : Nat} {u : World} {ts : List T} {a : Option Addr} {c : Nat} (h : Kp n u ts a c) : IsArgs u.heap.size u ts a c := h u (Nat.le_refl _) (fun _ _ _ => rfl)
theorem Kp.mono {n m : Nat} {u : World} {ts : List T} {a : Option Addr} {c : Nat} (h : Kp n u ts a c) (hm : m ≤ n) : Kp m u ts a c := fun X hs hb => h X hs fun b h1 h2 => hb b (Nat.le_trans hm h1) h2
theorem Kp.setK {n : Nat} {u : World} {ts : List T} {a : Option Addr} {c : Nat} (h : Kp n u ts a c) {b o : Nat} (hb : b < n) (v : Value) : Kp n (u.setCell ⟨b, o, none⟩ v) ts a c := fun X hs hx =>
  h X (by simpa using hs) fun k h1 h2 => by
    rw [hx k h1 (by simpa using h2), Below.heap_setCell _ _ _ _ (show k ≠ b by omega)]
theorem Kp.setsK {n : Nat} {u : World} {ts : List T} {a : Option Addr} {c : Nat} (h : Kp n u ts a c) {b : Nat} (hb : b < n) (v0 v1 v2 v3 v4 : Value) :
    Kp n (((((u.setCell ⟨b, 0, none⟩ v0).setCell ⟨b, 1, none⟩ v1).setCell ⟨b, 2, none⟩ v2).setCell ⟨b, 3, none⟩ v3).setCell ⟨b, 4, none⟩ v4) ts a c :=
  ((((h.setK hb v0).setK hb v1).setK hb v2).setK hb v3).setK hb v4
theorem kp_nil (n : Nat) (u : World) (a : Option Addr) {c : Nat} (hc : c ≤ maxLen) : Kp n u [] a c := fun X _ _ => ⟨by simp, hc, .inl rfl⟩
theorem LkPost.le {n : Bool} {l r : T} {k : Int} {w w' : World} {e : Ending} (h : LkPost n l r k w e w') : LePost n l r k w e w' := by
  obtain ⟨z, h1, h2, h3, h4, h5, h6, h7, h8, h9⟩ := h
  exact ⟨z, h1, h2, h3, h4, ⟨h5, h6, h7.now, h8.now⟩, h9⟩
/-- A variable of type Lit that holds something. -/
def Zb (b : Nat) (X : World) : Prop := ∃ v0 v1 v2 v3 v4 : Value, X.heap[b]? = some (.cells #[v0, v1, v2, v3, v4] 27 (0, 0))
theorem Bo.zb {b : Nat} {x : LV} {X : World} (h : Bo b x X) : Zb b X := ⟨_, _, _, _, _, h⟩
theorem Zb.bl {b : Nat} {X u : World} (h : Zb b X) (hu : Below X.heap.size X u) : Zb b u := by
  obtain ⟨v0, v1, v2, v3, v4, h⟩ := h
  exact ⟨v0, v1, v2, v3, v4, (hu.block b (Array.getElem?_eq_some_iff.1 h).1).trans h⟩
theorem Zb.sets {b : Nat} {X : World} (h : Zb b X) (u0 u1 u2 u3 u4 : Value) : Zb b (((((X.setCell ⟨b, 0, none⟩ u0).setCell ⟨b, 1, none⟩ u1).setCell ⟨b, 2, none⟩ u2).setCell ⟨b, 3, none⟩ u3).setCell ⟨b, 4, none⟩ u4) := by
  obtain ⟨v0, v1, v2, v3, v4, h⟩ := h
  have h0 := heap_setCell_same (o := 0) h u0
  have h1 := heap_setCell_same (o := 1) h0 u1
  have h2 := heap_setCell_same (o := 2) h1 u2
  have h3 := heap_setCell_same (o := 3) h2 u3
  have h4 := heap_setCell_same (o := 4) h3 u4
  exact ⟨_, _, _, _, _, h4⟩
theorem Zb.dr {b : Nat} {X : World} (h : Zb b X) : Zb b X.drew := h
theorem Zb.all {b : Nat} {X : World} (h : Zb b X) : ∃ v0 v1 v2 v3 v4 : Value, X.cell? ⟨b, 0, none⟩ = some v0 ∧ X.cell? ⟨b, 1, none⟩ = some v1 ∧ X.cell? ⟨b, 2, none⟩ = some v2 ∧ X.cell? ⟨b, 3, none⟩ = some v3 ∧ X.cell? ⟨b, 4, none⟩ = some v4 ∧
    X.frozen? ⟨b, 0, none⟩ = false ∧ X.frozen? ⟨b, 1, none⟩ = false ∧ X.frozen? ⟨b, 2, none⟩ = false ∧ X.frozen? ⟨b, 3, none⟩ = false ∧ X.frozen? ⟨b, 4, none⟩ = false := by
  obtain ⟨v0, v1, v2, v3, v4, h⟩ := h
  refine ⟨v0, v1, v2, v3, v4, ?_, ?_, ?_, ?_, ?_, ?_, ?_, ?_, ?_, ?_⟩ <;> simp [World.cell?, World.frozen?, h]
theorem Zb.new (W : World) (v0 v1 v2 v3 v4 : Value) : Zb W.heap.size (W.alloc (.cells #[v0, v1, v2, v3, v4] 27)) := ⟨v0, v1, v2, v3, v4, by
  show (W.heap.push _)[W.heap.size]? = _
  simp⟩
theorem Zb.lt {b : Nat} {X : World} (h : Zb b X) : b < X.heap.size := by
  obtain ⟨_, _, _, _, _, h⟩ := h
  exact (Array.getElem?_eq_some_iff.1 h).1
/-- A literal that was laid into a variable. -/
theorem Zb.lc {b : Nat} {X : World} (h : Zb b X) (z : LV) : Lc b z (((((X.setCell ⟨b, 0, none⟩ (.bool z.n)).setCell ⟨b, 1, none⟩ (.int .i64 z.l.head)).setCell ⟨b, 2, none⟩ (.slice z.pa z.l.args.length z.ca)).setCell ⟨b, 3, none⟩ (.int .i64 z.r.head)).setCell ⟨b, 4, none⟩ (.slice z.pb z.r.args.length z.cb)) := by
  obtain ⟨v0, v1, v2, v3, v4, h⟩ := h
  have h0 := heap_setCell_same (o := 0) h (.bool z.n)
  have h1 := heap_setCell_same (o := 1) h0 (.int .i64 z.l.head)
  have h2 := heap_setCell_same (o := 2) h1 (.slice z.pa z.l.args.length z.ca)
  have h3 := heap_setCell_same (o := 3) h2 (.int .i64 z.r.head)
  have h4 := heap_setCell_same (o := 4) h3 (.slice z.pb z.r.args.length z.cb)
  exact Bo.lc h4

end Go.Proofs.YtleohdddaadbeaaGreat

/- Contract of lit's Orient. -/
namespace Go.Proofs.YtleohdddaadbeaaGreat
set_option linter.unusedVariables false
set_option linter.unusedSimpArgs false
open Go.RowKit

theorem bl_drew9 {W u : World} (h : Below W.drew.heap.size W.drew u) : Below W.heap.size W u := ⟨h.os, h.tape, h.output, h.size, h.block⟩
theorem bl_call8 {n : Nat} {A W u : World} (h : Below n A W) (hn : n ≤ A.heap.size) (hu : Below W.heap.size W u) : Below n A u := h.trans (hu.mono (Nat.le_trans hn h.size))
theorem or_cmp {g : Sg} {l r : T} (h : errL g l r = 0) : cmpV g l r = .tuple #[.int .i64 (stand g l r), .int .i64 0] := by
  obtain ⟨h1, h2, _⟩ := errL_ok h
  unfold cmpV
  rw [if_pos (errF_pair h1 h2)]

set_option maxRecDepth 100000 in
set_option maxHeartbeats 8000000 in
theorem litOrientK_any (g : Sg) (x : LV) (hx : x.sz) (n₀ : Nat) (ga : Option Addr) (gc : Nat) (w : World) (hn : n₀ ≤ w.heap.size) (hG : IsSg n₀ w g ga gc) (hX : IsLv n₀ w x) :
    Calls Tryz.prog 8 #[.slice ga g.length gc, x.v] w (LkPost (ornN g x.n x.l x.r) (ornL g x.l x.r) (ornR g x.l x.r) (errL g x.l x.r) w) := by
  have hG0 := hG.mono hn
  have hX0 := hX.mono hn
  have d0 := ((((Later.below (Below.refl _ w)).and (later_lv hX0)).and (later_sg hG0)).pushB (Below.refl _ _) x).pushB (Below.refl _ _) LV.zero
  simp only [heap_alloc_size] at d0
  have C1 := Lib.hid (fun (W : World) (hG : IsSg W.heap.size W g ga gc) (hX : IsLv W.heap.size W x) => litCheck_any g x hx W.heap.size ga gc W (Nat.le_refl _) hG hX)
  have C2 := Lib.hid (fun (h : errL g x.l x.r = 0) (W : World) (hG : IsSg W.heap.size W g ga gc) (hX : IsLv W.heap.size W x) => by
    have := kCompare_any g x.l x.r hx.1 hx.2 W.heap.size ga gc x.pa x.ca x.pb x.cb W (Nat.le_refl _) hG hX.lw hX.rw hX.la hX.ra
    rw [or_cmp h] at this
    exact this)
  have CC := Lib.hid (fun (z : LV) (hz : z.sz) (w5 : World) (hs : w.heap.size + 2 ≤ w5.heap.size) (hZ : IsLv w.heap.size w5 z) (W : World) (hW : Below (w.heap.size + 1) w5 W) => by
    have hWs := hW.size
    have hc1 := copy_any z.l hz.1 w.heap.size z.pa z.ca W (by omega) hZ.lw (hZ.la.below (hW.mono (by omega)))
    have hc2 := copy_any z.r hz.2 w.heap.size z.pb z.cb W (by omega) hZ.rw (hZ.ra.below (hW.mono (by omega)))
    exact And.intro (hc1.mono (R' := fun e u => ∃ a c, e = .returned (tm z.l.head a z.l.args.length c) ∧ Below W.heap.size W u ∧ Kp (w.heap.size + 2) u z.l.args a c) fun e u ⟨a, c, h1, h2, h3⟩ => ⟨a, c, h1, h3, kp_of h2 (by omega)⟩)
      (hc2.mono (R' := fun e u => ∃ a c, e = .returned (tm z.r.head a z.r.args.length c) ∧ Below W.heap.size W u ∧ Kp (w.heap.size + 2) u z.r.args a c) fun e u ⟨a, c, h1, h2, h3⟩ => ⟨a, c, h1, h3, kp_of h2 (by omega)⟩))
  have HXB := Lib.hid (fun (W : World) (hW : Below w.heap.size w W) => hX0.below hW)
  have hsz : ∃ s0, w.heap.size = s0 := ⟨_, rfl⟩
  have D := Lib.hid d0
  clear d0 hG hX hG0 hX0 hsz
  have hs1 : ((w.alloc x.obj).alloc LV.zero.obj).heap.size = w.heap.size + 2 := by simp
  obtain ⟨w1, hw1⟩ : ∃ w1, (w.alloc x.obj).alloc LV.zero.obj = w1 := ⟨_, rfl⟩
  rw [hw1] at D hs1
  have hw1' : (w.alloc x.obj).alloc (.cells #[.bool false, .int .i64 0, .slice none 0 0, .int .i64 0, .slice none 0 0] 27) = w1 := hw1
  have HW1 := Lib.hid hw1'
  clear hw1 hw1'
  go_enter Tryz.func8, Tryz.ntmps8
  go_wp2_with fail
  rw [HW1.out]
  clear HW1
  refine (C1.out w1 D.out.now.2.2.1 D.out.now.2.2.2.1).mono ?_
  rintro e w2 ⟨rfl, hb⟩
  have D2 := Lib.hid (D.out.mv hb)
  have hs2 := hb.size
  clear hb D C1
  by_cases h : errL g x.l x.r = 0
  case neg =>
    have HQ := Lib.hid D2.out.now.2.2.2.2
    have hz := D2.out.now.1
    obtain ⟨z0, z1, z2, z3, z4⟩ := hz.lc
    obtain ⟨q0, q1, q2, q3, q4⟩ := hz.lf
    simp only [LV.zero, T.head, T.args, List.length_nil] at z0 z1 z2 z3 z4
    clear hz
    obtain ⟨k, hk⟩ : ∃ k, errL g x.l x.r = k := ⟨_, rfl⟩
    have HE := Lib.hid (show ornN g x.n x.l x.r = false ∧ ornL g x.l x.r = .node 0 [] ∧ ornR g x.l x.r = .node 0 [] ∧ errL g x.l x.r = k from ⟨by unfold ornN; rw [if_neg h], by unfold ornL; rw [if_neg h], by unfold ornR; rw [if_neg h], hk⟩)
    rw [hk] at h ⊢
    have h2 : (k != 0) = true := by simpa using h
    clear h hk
    go_wp2
    refine bodyPost_ret (v := .tuple #[LV.zero.v, .int .i64 k]) (by simp [results, Tryz.results8, go_sem, z0, z1, z2, z3, z4, LV.zero, T.head, T.args]) rfl ?_
    exact ⟨LV.zero, by rw [HE.out.2.2.2], HE.out.1.symm, HE.out.2.1.symm, HE.out.2.2.1.symm, by decide, by decide, kp_nil _ _ _ (by simp [LV.zero, maxLen]), kp_nil _ _ _ (by simp [LV.zero, maxLen]), bl_sets HQ.out (by omega) _ _ _ _ _⟩
  have HE := Lib.hid (show ornN g x.n x.l x.r = x.n ∧ ornL g x.l x.r = oriA g x.l x.r ∧ ornR g x.l x.r = oriB g x.l x.r ∧ errL g x.l x.r = 0 from ⟨by unfold ornN; rw [if_pos h], by unfold ornL; rw [if_pos h], by unfold ornR; rw [if_pos h], h⟩)
  have C3 := Lib.hid (C2.out h)
  rw [h]
  clear h C2
  obtain ⟨⟨x0, x1, x2, x3, x4⟩, _⟩ := (show Lc w.heap.size x w2 ∧ True from ⟨D2.out.now.2.1.lc, trivial⟩)
  go_wp2_with fail
  clear x0 x1 x2 x3 x4
  refine (C3.out w2 D2.out.now.2.2.1 D2.out.now.2.2.2.1).mono ?_
  rintro e w3 ⟨rfl, hb⟩
  have D3 := Lib.hid (D2.out.mv hb)
  have hs3 := hb.size
  clear hb D2 C3
  have hbx := D3.out.now.2.1
  have hbz := D3.out.now.1
  have hfb := D3.out.now.2.2.2.2
  obtain ⟨x0, x1, x2, x3, x4⟩ := hbx.lc
  obtain ⟨f0, f1, f2, f3, f4⟩ := hbx.lf
  obtain ⟨st, hst⟩ : ∃ st, stand g x.l x.r = st := ⟨_, rfl⟩
  have hne : w.heap.size ≠ w.heap.size + 1 := by omega
  by_cases hl : st = -1
  · have HO := Lib.hid (show oriA g x.l x.r = x.r ∧ oriB g x.l x.r = x.l from ⟨by unfold oriA; rw [hst, if_pos hl], by unfold oriB; rw [hst, if_pos hl]⟩)
    rw [hst]
    clear hst
    subst hl
    have hbx5 := hbx.swap
    have hbz5 : Bo (w.heap.size + 1) LV.zero ((((w3.setCell ⟨w.heap.size, 1, none⟩ (.int .i64 x.r.head)).setCell ⟨w.heap.size, 2, none⟩ (.slice x.pb x.r.args.length x.cb)).setCell ⟨w.heap.size, 3, none⟩ (.int .i64 x.l.head)).setCell ⟨w.heap.size, 4, none⟩ (.slice x.pa x.l.args.length x.ca)) := (((hbz.other (by omega)).other (by omega)).other (by omega)).other (by omega)
    have hfb5 : Below w.heap.size w ((((w3.setCell ⟨w.heap.size, 1, none⟩ (.int .i64 x.r.head)).setCell ⟨w.heap.size, 2, none⟩ (.slice x.pb x.r.args.length x.cb)).setCell ⟨w.heap.size, 3, none⟩ (.int .i64 x.l.head)).setCell ⟨w.heap.size, 4, none⟩ (.slice x.pa x.l.args.length x.ca)) :=
      (((hfb.setCell (p := ⟨w.heap.size, 1, none⟩) (Nat.le_refl _) _).setCell (p := ⟨w.heap.size, 2, none⟩) (Nat.le_refl _) _).setCell (p := ⟨w.heap.size, 3, none⟩) (Nat.le_refl _) _).setCell (p := ⟨w.heap.size, 4, none⟩) (Nat.le_refl _) _
    have HB3 := Lib.hid (And.intro hbx5 (And.intro hbz5 hfb5))
    clear hbx hbz hfb hbx5 hbz5 hfb5
    go_wp2
    clear x0 x1 x2 x3 x4 f0 f1 f2 f3 f4
    generalize (((w3.setCell ⟨w.heap.size, 1, none⟩ (.int .i64 x.r.head)).setCell ⟨w.heap.size, 2, none⟩ (.slice x.pb x.r.args.length x.cb)).setCell ⟨w.heap.size, 3, none⟩ (.int .i64 x.l.head)).setCell ⟨w.heap.size, 4, none⟩ (.slice x.pa x.l.args.length x.ca) = w5 at HB3 ⊢
    have HB5 := HB3
    clear HB3 D3
    have hs5 := HB5.out.2.1.lt
    have KP := Lib.hid (show ∀ W, Below (w.heap.size + 1) w5 W → Zb (w.heap.size + 1) W → Lc w.heap.size x.turn W ∧ Zb (w.heap.size + 1) W ∧ Below (w.heap.size + 1) w5 W from fun W hW hZ => ⟨Bo.lc ((hW.block _ (by omega)).trans HB5.out.1), hZ, hW⟩)
    have hz5 := HB5.out.2.1.zb
    have CZ := Lib.hid (CC.out x.turn ⟨hx.2, hx.1⟩ w5 (by omega) (HXB.out w5 HB5.out.2.2).turn)
    simp only [Lc, LV.turn] at KP
    simp only [LV.turn] at CZ
    have hsw : w.heap.size + 1 ≤ w5.heap.size := by omega
    obtain ⟨⟨x0, x1, x2, x3, x4⟩, _⟩ := KP.out w5 (Below.refl _ _) hz5
    refine wp_region_noPanic ?_
    go_region_held3 (fun w' => (w'.cell? ⟨w.heap.size, 0, none⟩ = some (.bool x.n) ∧ w'.cell? ⟨w.heap.size, 1, none⟩ = some (.int .i64 x.r.head) ∧ w'.cell? ⟨w.heap.size, 2, none⟩ = some (.slice x.pb x.r.args.length x.cb) ∧ w'.cell? ⟨w.heap.size, 3, none⟩ = some (.int .i64 x.l.head) ∧ w'.cell? ⟨w.heap.size, 4, none⟩ = some (.slice x.pa x.l.args.length x.ca)) ∧ Zb (w.heap.size + 1) w' ∧ Below (w.heap.size + 1) w5 w')
      (first
        | with_reducible exact KP.out _ (Below.refl _ _) hz5
        | with_reducible exact KP.out _ (Below.refl _ _).drew hz5.dr
        | with_reducible exact KP.out _ hB hZ
        | with_reducible exact KP.out _ (bl_sets hB (Nat.le_refl _) _ _ _ _ _) (hZ.sets _ _ _ _ _))
      (first
        | (go_at_call 19; with_reducible refine ((CZ.out _ (‹_ ∧ _ ∧ Below (w.heap.size + 1) w5 _›.2.2)).1).mono ?_; rintro e uL ⟨aL, cL, rfl, hu, KL⟩; have hB := bl_call8 (‹_ ∧ _ ∧ Below (w.heap.size + 1) w5 _›.2.2) hsw hu; have hZ := Zb.bl (‹_ ∧ _ ∧ Below (w.heap.size + 1) w5 _›.2.1) hu; obtain ⟨v0, v1, v2, v3, v4, z0, z1, z2, z3, z4, q0, q1, q2, q3, q4⟩ := hZ.all; try (have KRm := KR.mv (by first | exact hu | exact bl_drew9 hu)))
        | (go_at_call 19; with_reducible refine ((CZ.out _ (‹_ ∧ _ ∧ Below (w.heap.size + 1) w5 _›.2.2)).2).mono ?_; rintro e uR ⟨aR, cR, rfl, hu, KR⟩; have hB := bl_call8 (‹_ ∧ _ ∧ Below (w.heap.size + 1) w5 _›.2.2) hsw hu; have hZ := Zb.bl (‹_ ∧ _ ∧ Below (w.heap.size + 1) w5 _›.2.1) hu; obtain ⟨v0, v1, v2, v3, v4, z0, z1, z2, z3, z4, q0, q1, q2, q3, q4⟩ := hZ.all; try (have KLm := KL.mv (by first | exact hu | exact bl_drew9 hu))))
    all_goals
      refine NoPanic.normal ?_
      go_wp2
      refine bodyPost_ret (v := .tuple #[(LV.mk x.n x.r x.l aL cL aR cR).v, .int .i64 0]) (by simp [results, Tryz.results8, go_sem, z0, z1, z2, z3, z4]) rfl ?_
      exact ⟨LV.mk x.n x.r x.l aL cL aR cR, by rw [HE.out.2.2.2], HE.out.1.symm, by rw [HE.out.2.1, HO.out.1], by rw [HE.out.2.2.1, HO.out.2], (HXB.out w5 HB5.out.2.2).rw, (HXB.out w5 HB5.out.2.2).lw, by first | exact (KLm.setsK (by omega) _ _ _ _ _).mono (by omega) | exact (KL.setsK (by omega) _ _ _ _ _).mono (by omega), by first | exact (KRm.setsK (by omega) _ _ _ _ _).mono (by omega) | exact (KR.setsK (by omega) _ _ _ _ _).mono (by omega), bl_sets (HB5.out.2.2.trans (hB.mono (by omega))) (by omega) _ _ _ _ _⟩
  · have HO := Lib.hid (show oriA g x.l x.r = x.l ∧ oriB g x.l x.r = x.r from ⟨by unfold oriA; rw [hst, if_neg hl], by unfold oriB; rw [hst, if_neg hl]⟩)
    have hl' : (st == -1) = false := by simpa using hl
    rw [hst]
    clear hst hl
    have HB5 := Lib.hid (And.intro hbx (And.intro hbz hfb))
    clear hbx hbz hfb f0 f1 f2 f3 f4 D3
    go_wp2
    clear x0 x1 x2 x3 x4
    generalize w3 = w5 at *
    have hs5 := HB5.out.2.1.lt
    have KP := Lib.hid (show ∀ W, Below (w.heap.size + 1) w5 W → Zb (w.heap.size + 1) W → Lc w.heap.size x W ∧ Zb (w.heap.size + 1) W ∧ Below (w.heap.size + 1) w5 W from fun W hW hZ => ⟨Bo.lc ((hW.block _ (by omega)).trans HB5.out.1), hZ, hW⟩)
    have hz5 := HB5.out.2.1.zb
    have CZ := Lib.hid (CC.out x hx w5 (by omega) (HXB.out w5 HB5.out.2.2))
    simp only [Lc] at KP
    have hsw : w.heap.size + 1 ≤ w5.heap.size := by omega
    obtain ⟨⟨x0, x1, x2, x3, x4⟩, _⟩ := KP.out w5 (Below.refl _ _) hz5
    refine wp_region_noPanic ?_
    go_region_held3 (fun w' => (w'.cell? ⟨w.heap.size, 0, none⟩ = some (.bool x.n) ∧ w'.cell? ⟨w.heap.size, 1, none⟩ = some (.int .i64 x.l.head) ∧ w'.cell? ⟨w.heap.size, 2, none⟩ = some (.slice x.pa x.l.args.length x.ca) ∧ w'.cell? ⟨w.heap.size, 3, none⟩ = some (.int .i64 x.r.head) ∧ w'.cell? ⟨w.heap.size, 4, none⟩ = some (.slice x.pb x.r.args.length x.cb)) ∧ Zb (w.heap.size + 1) w' ∧ Below (w.heap.size + 1) w5 w')
      (first
        | with_reducible exact KP.out _ (Below.refl _ _) hz5
        | with_reducible exact KP.out _ (Below.refl _ _).drew hz5.dr
        | with_reducible exact KP.out _ hB hZ
        | with_reducible exact KP.out _ (bl_sets hB (Nat.le_refl _) _ _ _ _ _) (hZ.sets _ _ _ _ _))
      (first
        | (go_at_call 19; with_reducible refine ((CZ.out _ (‹_ ∧ _ ∧ Below (w.heap.size + 1) w5 _›.2.2)).1).mono ?_; rintro e uL ⟨aL, cL, rfl, hu, KL⟩; have hB := bl_call8 (‹_ ∧ _ ∧ Below (w.heap.size + 1) w5 _›.2.2) hsw hu; have hZ := Zb.bl (‹_ ∧ _ ∧ Below (w.heap.size + 1) w5 _›.2.1) hu; obtain ⟨v0, v1, v2, v3, v4, z0, z1, z2, z3, z4, q0, q1, q2, q3, q4⟩ := hZ.all; try (have KRm := KR.mv (by first | exact hu | exact bl_drew9 hu)))
        | (go_at_call 19; with_reducible refine ((CZ.out _ (‹_ ∧ _ ∧ Below (w.heap.size + 1) w5 _›.2.2)).2).mono ?_; rintro e uR ⟨aR, cR, rfl, hu, KR⟩; have hB := bl_call8 (‹_ ∧ _ ∧ Below (w.heap.size + 1) w5 _›.2.2) hsw hu; have hZ := Zb.bl (‹_ ∧ _ ∧ Below (w.heap.size + 1) w5 _›.2.1) hu; obtain ⟨v0, v1, v2, v3, v4, z0, z1, z2, z3, z4, q0, q1, q2, q3, q4⟩ := hZ.all; try (have KLm := KL.mv (by first | exact hu | exact bl_drew9 hu))))
    all_goals
      refine NoPanic.normal ?_
      go_wp2
      refine bodyPost_ret (v := .tuple #[(LV.mk x.n x.l x.r aL cL aR cR).v, .int .i64 0]) (by simp [results, Tryz.results8, go_sem, z0, z1, z2, z3, z4]) rfl ?_
      exact ⟨LV.mk x.n x.l x.r aL cL aR cR, by rw [HE.out.2.2.2], HE.out.1.symm, by rw [HE.out.2.1, HO.out.1], by rw [HE.out.2.2.1, HO.out.2], (HXB.out w5 HB5.out.2.2).lw, (HXB.out w5 HB5.out.2.2).rw, by first | exact (KLm.setsK (by omega) _ _ _ _ _).mono (by omega) | exact (KL.setsK (by omega) _ _ _ _ _).mono (by omega), by first | exact (KRm.setsK (by omega) _ _ _ _ _).mono (by omega) | exact (KR.setsK (by omega) _ _ _ _ _).mono (by omega), bl_sets (HB5.out.2.2.trans (hB.mono (by omega))) (by omega) _ _ _ _ _⟩

theorem litOrient_any (g : Sg) (x : LV) (hx : x.sz) (n₀ : Nat) (ga : Option Addr) (gc : Nat) (w : World) (hn : n₀ ≤ w.heap.size) (hG : IsSg n₀ w g ga gc) (hX : IsLv n₀ w x) :
    Calls Tryz.prog 8 #[.slice ga g.length gc, x.v] w (LePost (ornN g x.n x.l x.r) (ornL g x.l x.r) (ornR g x.l x.r) (errL g x.l x.r) w) :=
  (litOrientK_any g x hx n₀ ga gc w hn hG hX).mono fun _ _ h => h.le

end Go.Proofs.YtleohdddaadbeaaGreat
