/- QDa: joined of Lm, Lp, Lb, Sb. -/
import Derived.Test.YtleohdddaadbeaaQBo
import Derived.Test.YtleohdddaadbeaaQBl
import Derived.Test.YtleohdddaadbeaaQBm
import Derived.Test.YtleohdddaadbeaaSam0
import Derived.Test.YtleohdddaadbeaaCopy
import Derived.Test.YtleohdddaadbeaaQBk
/- Literals in memory. -/
namespace Go.Proofs.Ytleohdddaadbeaa
set_option linter.unusedVariables false
set_option linter.unusedSimpArgs false
open Go.RowKit

/-- A literal as a value: which terms, and where their arguments lie. -/
structure LV where
  n : Bool
  l : T
  r : T
  pa : Option Addr
  ca : Nat
  pb : Option Addr
  cb : Nat
abbrev LV.v (x : LV) : Value := .agg #[.bool x.n, .int .i64 x.l.head, .slice x.pa x.l.args.length x.ca, .int .i64 x.r.head, .slice x.pb x.r.args.length x.cb]
abbrev LV.obj (x : LV) : Obj := .cells #[.bool x.n, .int .i64 x.l.head, .slice x.pa x.l.args.length x.ca, .int .i64 x.r.head, .slice x.pb x.r.args.length x.cb] 27
/-- A variable of type Lit: its five cells. -/
def Lc (b : Nat) (x : LV) (X : World) : Prop :=
  X.cell? ⟨b, 0, none⟩ = some (.bool x.n) ∧ X.cell? ⟨b, 1, none⟩ = some (.int .i64 x.l.head) ∧ X.cell? ⟨b, 2, none⟩ = some (.slice x.pa x.l.args.length x.ca) ∧ X.cell? ⟨b, 3, none⟩ = some (.int .i64 x.r.head) ∧ X.cell? ⟨b, 4, none⟩ = some (.slice x.pb x.r.args.length x.cb)
theorem later_lc (W : World) (x : LV) : Later (Lc W.heap.size x) (W.alloc x.obj) := fun X hX =>
  ⟨(hX.cell (p := ⟨W.heap.size, 0, none⟩) (by simp)).trans (by simp [go_sem]), (hX.cell (p := ⟨W.heap.size, 1, none⟩) (by simp)).trans (by simp [go_sem]), (hX.cell (p := ⟨W.heap.size, 2, none⟩) (by simp)).trans (by simp [go_sem]),
    (hX.cell (p := ⟨W.heap.size, 3, none⟩) (by simp)).trans (by simp [go_sem]), (hX.cell (p := ⟨W.heap.size, 4, none⟩) (by simp)).trans (by simp [go_sem])⟩
/-- A new variable of type Lit, laid in a later world. -/
theorem Later.pushL {F : World → Prop} {W W' : World} (k : Later F W) (hb : Below W.heap.size W W') (x : LV) : Later (fun X => Lc W'.heap.size x X ∧ F X) (W'.alloc x.obj) :=
  (k.mv (hb.alloc hb.size _)).and (later_lc W' x)
/-- The sides of a literal in memory. -/
structure IsLv (n₀ : Nat) (w : World) (x : LV) : Prop where
  lw : (Lit.int .i64 x.l.head).wf = true
  rw : (Lit.int .i64 x.r.head).wf = true
  la : IsArgs n₀ w x.l.args x.pa x.ca
  ra : IsArgs n₀ w x.r.args x.pb x.cb
theorem IsLv.below {n₀ : Nat} {w w' : World} {x : LV} (h : IsLv n₀ w x) (hb : Below n₀ w w') : IsLv n₀ w' x := ⟨h.lw, h.rw, h.la.below hb, h.ra.below hb⟩
theorem IsLv.mono {n₀ n₁ : Nat} {w : World} {x : LV} (h : IsLv n₀ w x) (hn : n₀ ≤ n₁) : IsLv n₁ w x := ⟨h.lw, h.rw, h.la.mono hn, h.ra.mono hn⟩
theorem later_lv {W : World} {x : LV} (h : IsLv W.heap.size W x) : Later (fun X => IsLv X.heap.size X x) W := fun X hX => (h.below hX).mono hX.size
/-- Are both sides of a size that can be walked? -/
def LV.sz (x : LV) : Prop := x.l.size ≤ 1000000000000 ∧ x.r.size ≤ 1000000000000
/-- The literal with its sides changed. -/
def LV.turn (x : LV) : LV := ⟨x.n, x.r, x.l, x.pb, x.cb, x.pa, x.ca⟩
theorem IsLv.turn {n₀ : Nat} {w : World} {x : LV} (h : IsLv n₀ w x) : IsLv n₀ w x.turn := ⟨h.rw, h.lw, h.ra, h.la⟩

end Go.Proofs.Ytleohdddaadbeaa

/- Literals: what the document says of them; plain facts. -/
namespace Go.Proofs.Ytleohdddaadbeaa
set_option linter.unusedVariables false
set_option linter.unusedSimpArgs false
open Go.RowKit

/-- Do the sides of a literal go together? -/
def sortE (g : Sg) (l r : T) : Int := if predS g l.head then (if r.head = 0 then 0 else 10) else if predS g r.head then 10 else 0
/-- The error of a literal. -/
def errL (g : Sg) (l r : T) : Int := if errT g l ≠ 0 then errT g l else if errT g r ≠ 0 then errT g r else sortE g l r
theorem errL_ok {g : Sg} {l r : T} (h : errL g l r = 0) : errT g l = 0 ∧ errT g r = 0 ∧ sortE g l r = 0 := by
  unfold errL at h
  by_cases q : errT g l = 0
  · rw [if_neg (fun e => e q)] at h
    by_cases q' : errT g r = 0
    · rw [if_neg (fun e => e q')] at h
      exact ⟨q, q', h⟩
    · rw [if_pos q'] at h; exact absurd h q'
  · rw [if_pos q] at h; exact absurd h q
theorem errL_of {g : Sg} {l r : T} (h1 : errT g l = 0) (h2 : errT g r = 0) (h3 : sortE g l r = 0) : errL g l r = 0 := by
  unfold errL
  rw [if_neg (fun e => e h1), if_neg (fun e => e h2), h3]
theorem errL_left {g : Sg} {l r : T} (h : errT g l ≠ 0) : errL g l r = errT g l := by unfold errL; rw [if_pos h]
theorem errL_right {g : Sg} {l r : T} (h1 : errT g l = 0) (h2 : errT g r ≠ 0) : errL g l r = errT g r := by
  unfold errL; rw [if_neg (fun e => e h1), if_pos h2]
theorem errL_sort {g : Sg} {l r : T} (h1 : errT g l = 0) (h2 : errT g r = 0) : errL g l r = sortE g l r := by
  unfold errL; rw [if_neg (fun e => e h1), if_neg (fun e => e h2)]

/-- The same sides, one way round or the other. -/
def sidB (l r l' r' : T) : Bool := (sameB l l' && sameB r r') || (sameB l r' && sameB r l')
theorem sidB_iff {l r l' r' : T} : sidB l r l' r' = true ↔ sidesT l r l' r' := by
  simp only [sidB, sidesT, Bool.or_eq_true, Bool.and_eq_true, sameB_iff]
def samL (n : Bool) (l r : T) (n' : Bool) (l' r' : T) : Bool := n == n' && sidB l r l' r'
def oppL (n : Bool) (l r : T) (n' : Bool) (l' r' : T) : Bool := n != n' && sidB l r l' r'
theorem errF_row {g : Sg} {n : Bool} {l r : T} (h1 : errT g l = 0) (h2 : errT g r = 0) : errF g (rowL n l r) = 0 := by
  cases n
  · exact errF_pair h1 h2
  · show errF g ([l, l] ++ [r, r]) = 0
    rw [errF_app, errF_pair h1 h1, if_pos rfl, errF_pair h2 h2]

/-! ### An order -/
theorem lit_same {g : Sg} {n n' : Bool} {l r l' r' : T} : rowsT g (rowL n l r) (rowL n' l' r') = 0 ↔ samL n l r n' l' r' = true := by
  rw [rowsT_zero_iff, rowL_eq, samL, Bool.and_eq_true, beq_iff_eq, sidB_iff]
theorem lit_neg {g : Sg} {n n' : Bool} {l r l' r' : T} (h : oppL n l r n' l' r' = true) (hn : n = true) : rowsT g (rowL n l r) (rowL n' l' r') = 1 := by
  subst hn
  rw [oppL, Bool.and_eq_true, sidB_iff] at h
  have : n' = false := by
    have h1 := h.1
    cases n' with
    | false => rfl
    | true => simp at h1
  subst this
  exact rowsT_more_iff.2 (rowL_neg h.2)

/-! ### Oriented -/
def oriA (g : Sg) (l r : T) : T := if stand g l r = -1 then r else l
def oriB (g : Sg) (l r : T) : T := if stand g l r = -1 then l else r
theorem stand_ori (g : Sg) (l r : T) : stand g (oriA g l r) (oriB g l r) ≠ -1 := by
  unfold oriA oriB
  by_cases h : stand g l r = -1
  · rw [if_pos h, if_pos h, stand_swap, h]; decide
  · rw [if_neg h, if_neg h]; exact h
theorem sid_ori (g : Sg) (l r : T) : sidB (oriA g l r) (oriB g l r) l r = true := by
  rw [sidB_iff]
  unfold oriA oriB
  by_cases h : stand g l r = -1
  · rw [if_pos h, if_pos h]; exact .inr ⟨rfl, rfl⟩
  · rw [if_neg h, if_neg h]; exact .inl ⟨rfl, rfl⟩
theorem ori_again (g : Sg) (l r : T) : oriA g (oriA g l r) (oriB g l r) = oriA g l r ∧ oriB g (oriA g l r) (oriB g l r) = oriB g l r := by
  have := stand_ori g l r
  exact ⟨by rw [oriA, if_neg this], by rw [oriB, if_neg this]⟩
/-- $true is not greater than an atom. -/
theorem atom_true {g : Sg} {l r : T} (h : errL g l r = 0) (hp : predS g l.head = true) : stand g l r ≠ -1 := by
  obtain ⟨h1, h2, h3⟩ := errL_ok h
  unfold sortE at h3
  rw [if_pos hp] at h3
  have hr0 : r.head = 0 := by
    by_cases e : r.head = 0
    · exact e
    · rw [if_neg e] at h3; cases h3
  have hrt := errT_right h1
  intro e
  have hgt := stand_less.1 e
  obtain ⟨_, hd⟩ := gtK_iff.1 hgt
  have hg0 : g[0]? = some sy0 := by
    unfold rightG at hrt
    simp only [Bool.and_eq_true, decide_eq_true_eq] at hrt
    exact hrt.1.1.2
  have hra : r.args = [] := by
    have hf := (errT_okT h2).2.1
    rw [fitsT_eq] at hf
    rw [hr0] at hf
    unfold armOk at hf
    rw [show (0 : Int).toNat = 0 from rfl, hg0] at hf
    simp [sy0] at hf
    exact hf.1
  have hw : wtT g r = 1 := by
    rw [wtT_eq, hr0, hra]
    unfold wo
    rw [if_neg (by decide), show (0 : Int).toNat = 0 from rfl, hg0]
    rfl
  have hwl := wt_pos hrt (errT_okT h1)
  have hl0 : 0 ≤ l.head := by
    unfold predS at hp
    simp only [Bool.and_eq_true, decide_eq_true_eq] at hp
    exact hp.1
  rcases hd with hd | ⟨_, _, _, hd | ⟨_, hd⟩⟩
  · omega
  · omega
  · rw [hra] at hd; simp [gtL] at hd
theorem errL_ori {g : Sg} {l r : T} (h : errL g l r = 0) : errL g (oriA g l r) (oriB g l r) = 0 := by
  unfold oriA oriB
  by_cases e : stand g l r = -1
  · rw [if_pos e, if_pos e]
    obtain ⟨h1, h2, h3⟩ := errL_ok h
    refine errL_of h2 h1 ?_
    by_cases hp : predS g l.head = true
    · exact absurd e (atom_true h hp)
    · unfold sortE at h3 ⊢
      rw [if_neg hp] at h3
      by_cases hq : predS g r.head = true
      · rw [if_pos hq] at h3; cases h3
      · rw [if_neg hq, if_neg hp]
  · rw [if_neg e, if_neg e]; exact h
theorem oriA_gt (g : Sg) (l r : T) : oriA g l r = if gtK g r l then r else l := by
  unfold oriA
  by_cases h : gtK g r l = true
  · rw [if_pos (stand_less.2 h), if_pos h]
  · rw [if_neg (fun e => h (stand_less.1 e)), if_neg h]
theorem oriB_gt (g : Sg) (l r : T) : oriB g l r = if gtK g r l then l else r := by
  unfold oriB
  by_cases h : gtK g r l = true
  · rw [if_pos (stand_less.2 h), if_pos h]
  · rw [if_neg (fun e => h (stand_less.1 e)), if_neg h]

end Go.Proofs.Ytleohdddaadbeaa

/- Variables of type Lit that are written; copies that are kept. -/
namespace Go.Proofs.Ytleohdddaadbeaa
set_option linter.unusedVariables false
set_option linter.unusedSimpArgs false
open Go.RowKit

/-- A variable of type Lit: its block. -/
def Bo (b : Nat) (x : LV) (X : World) : Prop :=
  X.heap[b]? = some (.cells #[.bool x.n, .int .i64 x.l.head, .slice x.pa x.l.args.length x.ca, .int .i64 x.r.head, .slice x.pb x.r.args.length x.cb] 27 (0, 0))
theorem Bo.lc {b : Nat} {x : LV} {X : World} (h : Bo b x X) : Lc b x X := by
  unfold Bo at h
  refine ⟨?_, ?_, ?_, ?_, ?_⟩ <;> simp [World.cell?, h]
theorem Bo.lf {b : Nat} {x : LV} {X : World} (h : Bo b x X) : X.frozen? ⟨b, 0, none⟩ = false ∧ X.frozen? ⟨b, 1, none⟩ = false ∧ X.frozen? ⟨b, 2, none⟩ = false ∧ X.frozen? ⟨b, 3, none⟩ = false ∧ X.frozen? ⟨b, 4, none⟩ = false := by
  unfold Bo at h
  refine ⟨?_, ?_, ?_, ?_, ?_⟩ <;> simp [World.frozen?, h]
theorem Bo.lt {b : Nat} {x : LV} {X : World} (h : Bo b x X) : b < X.heap.size := (Array.getElem?_eq_some_iff.1 h).1
theorem later_bo (W : World) (x : LV) : Later (Bo W.heap.size x) (W.alloc x.obj) := fun X hX => by
  unfold Bo
  rw [hX.block _ (by simp)]
  show (W.heap.push x.obj)[W.heap.size]? = _
  simp
theorem Later.pushB {F : World → Prop} {W W' : World} (k : Later F W) (hb : Below W.heap.size W W') (x : LV) : Later (fun X => Bo W'.heap.size x X ∧ F X) (W'.alloc x.obj) :=
  (k.mv (hb.alloc hb.size _)).and (later_bo W' x)
theorem Bo.swap {b : Nat} {x : LV} {X : World} (h : Bo b x X) : Bo b x.turn ((((X.setCell ⟨b, 1, none⟩ (.int .i64 x.r.head)).setCell ⟨b, 2, none⟩ (.slice x.pb x.r.args.length x.cb)).setCell ⟨b, 3, none⟩ (.int .i64 x.l.head)).setCell ⟨b, 4, none⟩ (.slice x.pa x.l.args.length x.ca)) := by
  have h1 := heap_setCell_same (o := 1) h (.int .i64 x.r.head)
  have h2 := heap_setCell_same (o := 2) h1 (.slice x.pb x.r.args.length x.cb)
  have h3 := heap_setCell_same (o := 3) h2 (.int .i64 x.l.head)
  have h4 := heap_setCell_same (o := 4) h3 (.slice x.pa x.l.args.length x.ca)
  exact h4
theorem Bo.other {b b' o : Nat} {x : LV} {X : World} {u : Value} (h : Bo b x X) (hne : b ≠ b') : Bo b x (X.setCell ⟨b', o, none⟩ u) := by
  unfold Bo at *
  rw [Below.heap_setCell _ _ _ _ hne]; exact h

/-- The zero literal. -/
def LV.zero : LV := ⟨false, .node 0 [], .node 0 [], none, 0, none, 0⟩
theorem lv_zero (n : Nat) (X : World) : IsLv n X LV.zero := ⟨by decide, by decide, ⟨by simp [LV.zero, T.args], by simp [LV.zero, maxLen], .inl rfl⟩, ⟨by simp [LV.zero, T.args], by simp [LV.zero, maxLen], .inl rfl⟩⟩

/-- Terms whose blocks are all at n or behind: they last as long as these do. -/
def Kp (n : Nat) (u : World) (ts : List T) (a : Option Addr) (c : Nat) : Prop := ∀ X : World, u.heap.size ≤ X.heap.size → (∀ b, n ≤ b → b < u.heap.size → X.heap[b]? = u.heap[b]?) → IsArgs X.heap.size X ts a c
theorem kp_of {m n : Nat} {u : World} {ts : List T} {a : Option Addr} {c : Nat} (h : IsArgsp (fun b => m ≤ b ∧ Blk u b) u ts a c) (hn : n ≤ m) : Kp n u ts a c := fun X hs hb =>
  (h.keep (ok' := fun b => b < X.heap.size) (fun b hk => hb b (Nat.le_trans hn hk.1) hk.2.lt) (fun b hk => Nat.lt_of_lt_of_le hk.2.lt hs)).toArgs (fun _ h => h)
theorem Kp.mv {n : Nat} {u v : World} {ts : List T} {a : Option Addr} {c : Nat} (h : Kp n u ts a c) (hb : Below u.heap.size u v) : Kp n v ts a c := fun X hs hx =>
  h X (Nat.le_trans hb.size hs) fun b h1 h2 => (hx b h1 (Nat.lt_of_lt_of_le h2 hb.size)).trans (hb.block b h2)
theorem Kp.sets {n : Nat} {u : World} {ts : List T} {a : Option Addr} {c : Nat} (h : Kp n u ts a c) {b : Nat} (hb : b < n) (v0 v1 v2 v3 v4 : Value) :
    IsArgs (((((u.setCell ⟨b, 0, none⟩ v0).setCell ⟨b, 1, none⟩ v1).setCell ⟨b, 2, none⟩ v2).setCell ⟨b, 3, none⟩ v3).setCell ⟨b, 4, none⟩ v4).heap.size (((((u.setCell ⟨b, 0, none⟩ v0).setCell ⟨b, 1, none⟩ v1).setCell ⟨b, 2, none⟩ v2).setCell ⟨b, 3, none⟩ v3).setCell ⟨b, 4, none⟩ v4) ts a c :=
  h _ (by simp) fun k h1 h2 => by
    have hne : k ≠ b := by omega
    rw [Below.heap_setCell _ _ _ _ hne, Below.heap_setCell _ _ _ _ hne, Below.heap_setCell _ _ _ _ hne, Below.heap_setCell _ _ _ _ hne, Below.heap_setCell _ _ _ _ hne]
theorem bl_sets {n b : Nat} {w u : World} (h : Below n w u) (hb : n ≤ b) (v0 v1 v2 v3 v4 : Value) : Below n w (((((u.setCell ⟨b, 0, none⟩ v0).setCell ⟨b, 1, none⟩ v1).setCell ⟨b, 2, none⟩ v2).setCell ⟨b, 3, none⟩ v3).setCell ⟨b, 4, none⟩ v4) :=
  ((((h.setCell (p := ⟨b, 0, none⟩) hb v0).setCell (p := ⟨b, 1, none⟩) hb v1).setCell (p := ⟨b, 2, none⟩) hb v2).setCell (p := ⟨b, 3, none⟩) hb v3).setCell (p := ⟨b, 4, none⟩) hb v4

/-! ### What Orient answers -/
def ornN (g : Sg) (n : Bool) (l r : T) : Bool := if errL g l r = 0 then n else false
def ornL (g : Sg) (l r : T) : T := if errL g l r = 0 then oriA g l r else .node 0 []
def ornR (g : Sg) (l r : T) : T := if errL g l r = 0 then oriB g l r else .node 0 []
/-- A literal in memory of its own, with an error. -/
def LePost (n : Bool) (l r : T) (k : Int) (w : World) (e : Ending) (w' : World) : Prop :=
  ∃ z : LV, e = .returned (.tuple #[z.v, .int .i64 k]) ∧ z.n = n ∧ z.l = l ∧ z.r = r ∧ IsLv w'.heap.size w' z ∧ Below w.heap.size w w'
/-- .. in blocks that the call made. -/
def LkPost (n : Bool) (l r : T) (k : Int) (w : World) (e : Ending) (w' : World) : Prop :=
  ∃ z : LV, e = .returned (.tuple #[z.v, .int .i64 k]) ∧ z.n = n ∧ z.l = l ∧ z.r = r ∧ (Lit.int .i64 z.l.head).wf = true ∧ (Lit.int .i64 z.r.head).wf = true ∧ Kp w.heap.size w' z.l.args z.pa z.ca ∧ Kp w.heap.size w' z.r.args z.pb z.cb ∧ Below w.heap.size w w'
theorem Kp.now {n : Nat} {u : World} {ts : List T} {a : Option Addr} {c : Nat} (h : Kp n u ts a c) : IsArgs u.heap.size u ts a c := h u (Nat.le_refl _) (fun _ _ _ => rfl)
theorem Kp.mono {n m : Nat} {u : World} {ts : List T} {a : Option Addr} {c : Nat} (h : Kp n u ts a c) (hm : m ≤ n) : Kp m u ts a c := fun X hs hb => h X hs fun b h1 h2 => hb b (Nat.le_trans hm h1) h2
theorem Kp.setK {n : Nat} {u : World} {ts : List T} {a : Option Addr} {c : Nat} (h : Kp n u ts a c) {b o : Nat} (hb : b < n) (v : Value) : Kp n (u.setCell ⟨b, o, none⟩ v) ts a c := fun X hs hx =>
  h X (by simpa using hs) fun k h1 h2 => by
    rw [hx k h1 (by simpa using h2), Below.heap_setCell _ _ _ _ (show k ≠ b by omega)]
theorem Kp.setsK {n : Nat} {u : World} {ts : List T} {a : Option Addr} {c : Nat} (h : Kp n u ts a c) {b : Nat} (hb : b < n) (v0 v1 v2 v3 v4 : Value) :
    Kp n (((((u.setCell ⟨b, 0, none⟩ v0).setCell ⟨b, 1, none⟩ v1).setCell ⟨b, 2, none⟩ v2).setCell ⟨b, 3, none⟩ v3).setCell ⟨b, 4, none⟩ v4) ts a c :=
  ((((h.setK hb v0).setK hb v1).setK hb v2).setK hb v3).setK hb v4
theorem kp_nil (n : Nat) (u : World) (a : Option Addr) {c : Nat} (hc : c ≤ maxLen) : Kp n u [] a c := fun X _ _ => ⟨by simp, hc, .inl rfl⟩
theorem LkPost.le {n : Bool} {l r : T} {k : Int} {w w' : World} {e : Ending} (h : LkPost n l r k w e w') : LePost n l r k w e w' := by
  obtain ⟨z, h1, h2, h3, h4, h5, h6, h7, h8, h9⟩ := h
  exact ⟨z, h1, h2, h3, h4, ⟨h5, h6, h7.now, h8.now⟩, h9⟩
/-- A variable of type Lit that holds something. -/
def Zb (b : Nat) (X : World) : Prop := ∃ v0 v1 v2 v3 v4 : Value, X.heap[b]? = some (.cells #[v0, v1, v2, v3, v4] 27 (0, 0))
theorem Bo.zb {b : Nat} {x : LV} {X : World} (h : Bo b x X) : Zb b X := ⟨_, _, _, _, _, h⟩
theorem Zb.bl {b : Nat} {X u : World} (h : Zb b X) (hu : Below X.heap.size X u) : Zb b u := by
  obtain ⟨v0, v1, v2, v3, v4, h⟩ := h
  exact ⟨v0, v1, v2, v3, v4, (hu.block b (Array.getElem?_eq_some_iff.1 h).1).trans h⟩
theorem Zb.sets {b : Nat} {X : World} (h : Zb b X) (u0 u1 u2 u3 u4 : Value) : Zb b (((((X.setCell ⟨b, 0, none⟩ u0).setCell ⟨b, 1, none⟩ u1).setCell ⟨b, 2, none⟩ u2).setCell ⟨b, 3, none⟩ u3).setCell ⟨b, 4, none⟩ u4) := by
  obtain ⟨v0, v1, v2, v3, v4, h⟩ := h
  have h0 := heap_setCell_same (o := 0) h u0
  have h1 := heap_setCell_same (o := 1) h0 u1
  have h2 := heap_setCell_same (o := 2) h1 u2
  have h3 := heap_setCell_same (o := 3) h2 u3
  have h4 := heap_setCell_same (o := 4) h3 u4
  exact ⟨_, _, _, _, _, h4⟩
theorem Zb.dr {b : Nat} {X : World} (h : Zb b X) : Zb b X.drew := h
theorem Zb.all {b : Nat} {X : World} (h : Zb b X) : ∃ v0 v1 v2 v3 v4 : Value, X.cell? ⟨b, 0, none⟩ = some v0 ∧ X.cell? ⟨b, 1, none⟩ = some v1 ∧ X.cell? ⟨b, 2, none⟩ = some v2 ∧ X.cell? ⟨b, 3, none⟩ = some v3 ∧ X.cell? ⟨b, 4, none⟩ = some v4 ∧
    X.frozen? ⟨b, 0, none⟩ = false ∧ X.frozen? ⟨b, 1, none⟩ = false ∧ X.frozen? ⟨b, 2, none⟩ = false ∧ X.frozen? ⟨b, 3, none⟩ = false ∧ X.frozen? ⟨b, 4, none⟩ = false := by
  obtain ⟨v0, v1, v2, v3, v4, h⟩ := h
  refine ⟨v0, v1, v2, v3, v4, ?_, ?_, ?_, ?_, ?_, ?_, ?_, ?_, ?_, ?_⟩ <;> simp [World.cell?, World.frozen?, h]
theorem Zb.new (W : World) (v0 v1 v2 v3 v4 : Value) : Zb W.heap.size (W.alloc (.cells #[v0, v1, v2, v3, v4] 27)) := ⟨v0, v1, v2, v3, v4, by
  show (W.heap.push _)[W.heap.size]? = _
  simp⟩
theorem Zb.lt {b : Nat} {X : World} (h : Zb b X) : b < X.heap.size := by
  obtain ⟨_, _, _, _, _, h⟩ := h
  exact (Array.getElem?_eq_some_iff.1 h).1
/-- A literal that was laid into a variable. -/
theorem Zb.lc {b : Nat} {X : World} (h : Zb b X) (z : LV) : Lc b z (((((X.setCell ⟨b, 0, none⟩ (.bool z.n)).setCell ⟨b, 1, none⟩ (.int .i64 z.l.head)).setCell ⟨b, 2, none⟩ (.slice z.pa z.l.args.length z.ca)).setCell ⟨b, 3, none⟩ (.int .i64 z.r.head)).setCell ⟨b, 4, none⟩ (.slice z.pb z.r.args.length z.cb)) := by
  obtain ⟨v0, v1, v2, v3, v4, h⟩ := h
  have h0 := heap_setCell_same (o := 0) h (.bool z.n)
  have h1 := heap_setCell_same (o := 1) h0 (.int .i64 z.l.head)
  have h2 := heap_setCell_same (o := 2) h1 (.slice z.pa z.l.args.length z.ca)
  have h3 := heap_setCell_same (o := 3) h2 (.int .i64 z.r.head)
  have h4 := heap_setCell_same (o := 4) h3 (.slice z.pb z.r.args.length z.cb)
  exact Bo.lc h4

end Go.Proofs.Ytleohdddaadbeaa

/- Substitutions: small contracts of the program. -/
namespace Go.Proofs.Ytleohdddaadbeaa
set_option linter.unusedVariables false
set_option linter.unusedSimpArgs false
open Go.RowKit

/-! ### Small contracts -/
theorem sIsVar_any (h : Int) (a : Option Addr) (k c : Nat) (v : Int) (w : World) (h1 : -9223372036854775808 ≤ v) (h2 : v ≤ 9223372036854775807) :
    Calls Try.prog 75 #[tm h a k c, .int .i64 v] w fun e w' => e = .returned (.bool (decide (h = -1 - v))) ∧ Below w.heap.size w w' := by
  have hb := (Below.refl w.heap.size w).alloc (Nat.le_refl _) (tmCells h a k c)
  have HB := Lib.hid hb
  clear hb
  go_enter Try.func75, Try.ntmps75
  go_wp2
  go_ret
  refine ⟨?_, HB.out⟩
  congr 2

theorem sVariable_any (v : Int) (w : World) (h1 : -9223372036854775808 ≤ v) (h2 : v ≤ 9223372036854775807) :
    Calls Try.prog 78 #[.int .i64 v] w fun e w' => e = .returned (tm (-1 - v) none 0 0) ∧ Below w.heap.size w w' := by
  go_enter Try.func78, Try.ntmps78
  go_wp2
  exact bodyPost_ret (v := tm (-1 - v) none 0 0) (by simp [results, Try.results78, go_sem]) rfl ⟨rfl, ((Below.refl _ _).alloc (Nat.le_refl _) _)⟩

end Go.Proofs.Ytleohdddaadbeaa
