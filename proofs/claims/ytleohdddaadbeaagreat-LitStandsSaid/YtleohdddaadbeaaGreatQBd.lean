/- QBd: joined of Cn0, Lt0, Sg, Kgf. -/
import Derived.Test.YtleohdddaadbeaaGreatLeaf
import Derived.Test.YtleohdddaadbeaaGreatQBc
import Derived.Test.YtleohdddaadbeaaGreatVa0
import Derived.Laws.AppendOwnNone
import Derived.Test.YtleohdddaadbeaaGreatSrF
import Derived.Test.YtleohdddaadbeaaGreatComp
/- Contracts of Count and Few. -/
namespace Go.Proofs.YtleohdddaadbeaaGreat
set_option linter.unusedVariables false
set_option linter.unusedSimpArgs false
open Go.RowKit

/-- Count(t, most): the size, as far as one above most. -/
theorem count_any : ∀ (N : Nat) (t : T), t.size ≤ N → ∀ (most : Nat) (n₀ : Nat) (a : Option Addr) (c : Nat) (w : World), most ≤ 500 → n₀ ≤ w.heap.size → IsArgs n₀ w t.args a c →
    Calls Tryz.prog 28 #[tm t.head a t.args.length c, .int .i64 most] w fun e w' => e = .returned (.int .i64 (min t.size (most + 1) : Nat)) ∧ Below w.heap.size w w' := by
  intro N
  induction N with
  | zero => intro t ht; have := T.size_pos t; omega
  | succ N ih =>
    intro t ht most n₀ a c w hm hn hA
    have IH := Lib.hid ih
    clear ih
    have hsz := T.size_eq t
    have HS := Lib.hid hsz
    clear hsz
    have hlc : t.args.length ≤ c ∧ c ≤ maxLen := ⟨hA.1, hA.2.1⟩
    unfold maxLen at hlc
    obtain ⟨hl1, hl2⟩ := hlc
    generalize hL : t.args.length = len at *
    have HL := Lib.hid hL
    clear hL
    have HA := Lib.hid hA
    clear hA
    go_enter Tryz.func28, Tryz.ntmps28
    go_wp2
    go_loopw [5, 6] (fun n i wr => ∃ k : Nat, k ≤ len ∧ i = .int .i64 k ∧ n = .int .i64 (min (1 + T.sizes (t.args.take k)) (most + 1) : Nat) ∧ Below (w.heap.size + 1) (w.alloc (tmCells t.head a len c)) wr)
      (fun _ i _ => len - (intOf i).toNat)
    case atStart => exact ⟨0, Nat.zero_le _, rfl, by simp [T.sizes], Below.refl _ _⟩
    case round =>
      obtain ⟨k, hk, rfl, rfl, hB⟩ := hrel
      generalize hm' : min (1 + T.sizes (t.args.take k)) (most + 1) = m at *
      have hmb : m ≤ 501 := by omega
      have HM := Lib.hid hm'
      clear hm'
      have hbox : wr.cell? ⟨w.heap.size, 1, none⟩ = some (.slice a len c) := (hB.cell (p := ⟨w.heap.size, 1, none⟩) (by simp)).trans (by simp [go_sem])
      have HB := Lib.hid hB
      clear hB
      by_cases hlt : k < len
      · by_cases hle : m ≤ most
        · have hw : Below n₀ w wr := ((Below.refl n₀ w).alloc hn _).trans (HB.out.mono (by omega))
          obtain ⟨b, o, s, a', c', rfl, hbn, hs, hwf, hc1, hc2, hA'⟩ := (HA.out.below hw).elem (i := k) (by rw [HL.out]; exact hlt)
          have hs1 : wr.heap.size ≥ w.heap.size + 1 := by have := HB.out.size; simpa using this
          have hsN : s.size ≤ N := by have := T.size_lt_of_mem hs; have := HS.out; omega
          have HSS := Lib.hid hs
          have HA' := Lib.hid hA'
          clear hs hA' hw hwf
          go_wp2_with fail
          rw [show ((most : Int) - (m : Int)) = ((most - m : Nat) : Int) from by omega]
          refine (IH.out s hsN (most - m) n₀ a' c' wr (by omega) (by omega) HA'.out).mono ?_
          rintro e w2 ⟨rfl, hB2⟩
          generalize hr : min s.size (most - m + 1) = r
          have hrb : r ≤ 501 := by omega
          have HR := Lib.hid hr
          have HB2 := Lib.hid hB2
          clear hr hB2
          go_wp2
          go_roundw
          case rel =>
            refine ⟨k + 1, by omega, by go_num, ?_, HB.out.trans (HB2.out.mono (by omega))⟩
            have h1 := HM.out
            have h2 := HR.out
            have h3 := T.sizes_take HSS.out
            rw [show ((m : Int) + (r : Int)) = ((m + r : Nat) : Int) from by omega]
            exact congrArg (fun x : Nat => Value.int .i64 (x : Int)) (by omega)
          case measure => simp [intOf]; omega
        · go_wp2
          go_ret
          refine ⟨?_, (((Below.refl w.heap.size w).alloc (Nat.le_refl _) _).trans (HB.out.mono (by omega)))⟩
          have h1 := HM.out
          have h2 := HS.out
          have h3 := T.sizes_append (t.args.take k) (t.args.drop k)
          rw [List.take_append_drop] at h3
          exact congrArg (fun x : Nat => Ending.returned (.int .i64 (x : Int))) (by omega)
      · go_wp2
        go_ret
        refine ⟨?_, (((Below.refl w.heap.size w).alloc (Nat.le_refl _) _).trans (HB.out.mono (by omega)))⟩
        have h1 := HM.out
        have h2 := HS.out
        rw [List.take_of_length_le (by have := HL.out; omega)] at h1
        exact congrArg (fun x : Nat => Ending.returned (.int .i64 (x : Int))) (by omega)

end Go.Proofs.YtleohdddaadbeaaGreat

/- Lt0: of Lat, what names no reference. -/
/- Memory of variables; rows of numbers and append. -/
namespace Go.Proofs.YtleohdddaadbeaaGreat
set_option linter.unusedVariables false
set_option linter.unusedSimpArgs false
open Go.RowKit

theorem T.args_node (h : Int) (ts : List T) : (T.node h ts).args = ts := rfl
theorem var_alloc {w0 w' W : World} (h : Below w0.heap.size w0 w') (hd : Int) (a : Option Addr) (n c : Nat) (hW : Below (w'.alloc (tmCells hd a n c)).heap.size (w'.alloc (tmCells hd a n c)) W) :
    W.cell? ⟨w'.heap.size, 0, none⟩ = some (.int .i64 hd) ∧ W.cell? ⟨w'.heap.size, 1, none⟩ = some (.slice a n c) ∧ Below w0.heap.size w0 W ∧ Below w'.heap.size w' W := by
  refine ⟨(hW.cell (p := ⟨w'.heap.size, 0, none⟩) (by simp)).trans (by simp [go_sem]), (hW.cell (p := ⟨w'.heap.size, 1, none⟩) (by simp)).trans (by simp [go_sem]), ?_, ?_⟩
  · exact (h.alloc h.size _).trans (hW.mono (by have := h.size; simp; omega))
  · exact ((Below.refl _ _).alloc (Nat.le_refl _) _).trans (hW.mono (by simp))

/-- A variable that holds a term, in later worlds. -/
theorem var_term {w0 w' : World} (h : Below w0.heap.size w0 w') (x : T) (a : Option Addr) (c : Nat) (hA : IsArgs w'.heap.size w' x.args a c) (W : World) (hW : Below (w'.alloc (tmCells x.head a x.args.length c)).heap.size (w'.alloc (tmCells x.head a x.args.length c)) W) :
    W.cell? ⟨w'.heap.size, 0, none⟩ = some (.int .i64 x.head) ∧ W.cell? ⟨w'.heap.size, 1, none⟩ = some (.slice a x.args.length c) ∧ Below w0.heap.size w0 W ∧ IsArgs W.heap.size W x.args a c := by
  obtain ⟨h1, h2, h3, h4⟩ := var_alloc h x.head a x.args.length c hW
  exact ⟨h1, h2, h3, (hA.below h4).mono h4.size⟩

def Z0 : T := .node 0 []

theorem isIs_of_owns {base : Nat} {W : World} {v : Value} {p : List Int} (h : W.ownsRow base 3 1 v p.length (p.map (Value.int .i64))) : ∃ a c, v = .slice a p.length c ∧ IsIs W.heap.size W p a c := by
  have hcells := fun g hg => h.cells (g := g) hg
  rcases h.2 with ⟨rfl, h0⟩ | ⟨g, cap, cur, rfl, hg, hh, hn, hc, _⟩
  · exact ⟨none, 0, by rw [h0], by omega, by simp [maxLen], .inl (List.eq_nil_of_length_eq_zero h0)⟩
  · refine ⟨_, cap, rfl, hn, hc, .inr ⟨g, 0, rfl, (Array.getElem?_eq_some_iff.1 hh).1, fun j z hz => ?_⟩⟩
    have := hcells g rfl j (.int .i64 z) (by simp [hz])
    rw [addr_add] at this
    simpa using this

/-- append(v, zs...), where v is a row of one's own. -/
theorem wpList_append_is {w : World} {ops : Array Oper} {rest : List Oper} {o : Oper} {a : Act} {Q : Exit → Act → World → Prop} (hgd : o.guard = none) (s x : Operand)
    (ho : o.op = .call { callee := .builtin .append, args := #[s, x], argTypes := #[79, 79] }) (base : Nat) (v : Value) (n : Nat) (xs : List Value) (hs : a.eval s = v) (hown : w.ownsRow base 3 1 v n xs)
    (zs : List Int) (a' : Option Addr) (c' : Nat) (n₀ : Nat) (hx : a.eval x = .slice a' zs.length c') (hI : IsIs n₀ w zs a' c') (hnil : a' = none → c' = 0) (hl : n + zs.length ≤ 1000000000000) (hbase : base ≤ w.heap.size)
    (h : ∀ v' w', w'.ownsRow base 3 1 v' (n + zs.length) (xs ++ zs.map (Value.int .i64)) → w.grownBy w' v.ownBlock → wpList Tryz.prog ops Q rest (a.put o.dst v') w') : wpList Tryz.prog ops Q (o :: rest) a w := by
  obtain ⟨i0, hi, hz0, hz1, hz2⟩ := info_parts info3
  cases a' with
  | none =>
    obtain rfl := hnil rfl
    have h0 : zs = [] := by rcases hI.2.2 with h | ⟨_, _, h, _⟩; exact h; cases h
    subst h0
    refine wpList_append_own_none hgd s x 79 ho base 3 i0 1 Tryz.underlying79 hi v n xs hs hown hx ?_
    exact h v w (by simpa using hown) ⟨rfl, rfl, rfl, Nat.le_refl _, fun _ _ _ => rfl⟩
  | some ad =>
    refine wpList_append_own w hgd s x 79 ho base 3 i0 (.int .i64 0) 1 8 Tryz.underlying79 hi hz0 hz1 hz2 rfl (by decide) v n xs hs hown ad zs.length c' (zs.map (Value.int .i64)) hx (by simp) (fun j u hj => ?_) (by intro u hu; obtain ⟨z, _, rfl⟩ := List.mem_map.1 hu; rfl) (by unfold maxLen; omega) (by omega) hbase (fun v' w' h1 h2 _ => h v' w' h1 h2)
    rw [List.getElem?_map, Option.map_eq_some_iff] at hj
    obtain ⟨z, hz, rfl⟩ := hj
    rcases hI.2.2 with rfl | ⟨b, o', e, _, h6⟩
    · simp at hz
    · cases e
      rw [addr_add]
      exact h6 j z hz


end Go.Proofs.YtleohdddaadbeaaGreat

/- Facts on memory that last: what holds in every later world. -/
namespace Go.Proofs.YtleohdddaadbeaaGreat
set_option linter.unusedVariables false
set_option linter.unusedSimpArgs false
open Go.RowKit

/-- F holds in W and in every later world. -/
def Later (F : World → Prop) (W : World) : Prop := ∀ W', Below W.heap.size W W' → F W'
theorem Later.now {F : World → Prop} {W : World} (h : Later F W) : F W := h W (Below.refl _ _)
theorem Later.mv {F : World → Prop} {W W' : World} (h : Later F W) (hb : Below W.heap.size W W') : Later F W' := fun X hX => h X (hb.trans (hX.mono hb.size))
theorem Later.and {F G : World → Prop} {W : World} (h : Later F W) (k : Later G W) : Later (fun X => G X ∧ F X) W := fun X hX => ⟨k X hX, h X hX⟩
theorem Later.below {w W : World} (h : Below w.heap.size w W) : Later (fun X => Below w.heap.size w X) W := fun X hX => h.trans (hX.mono h.size)
theorem later_args {W : World} {ts : List T} {a : Option Addr} {c : Nat} (h : IsArgs W.heap.size W ts a c) : Later (fun X => IsArgs X.heap.size X ts a c) W := fun X hX => (h.below hX).mono hX.size
theorem later_is {W : World} {zs : List Int} {a : Option Addr} {c : Nat} (h : IsIs W.heap.size W zs a c) : Later (fun X => IsIs X.heap.size X zs a c) W := fun X hX => (h.below hX).mono hX.size

/-- A variable of type Term: its two cells. -/
def Vc (b : Nat) (h : Int) (a : Option Addr) (n c : Nat) (X : World) : Prop := X.cell? ⟨b, 0, none⟩ = some (.int .i64 h) ∧ X.cell? ⟨b, 1, none⟩ = some (.slice a n c)
theorem later_var (W : World) (h : Int) (a : Option Addr) (n c : Nat) : Later (Vc W.heap.size h a n c) (W.alloc (tmCells h a n c)) := fun X hX =>
  ⟨(hX.cell (p := ⟨W.heap.size, 0, none⟩) (by simp)).trans (by simp [go_sem]), (hX.cell (p := ⟨W.heap.size, 1, none⟩) (by simp)).trans (by simp [go_sem])⟩
/-- A new variable of type Term, laid in a later world. -/
theorem Later.push {F : World → Prop} {W W' : World} (k : Later F W) (hb : Below W.heap.size W W') (h : Int) (a : Option Addr) (n c : Nat) : Later (fun X => Vc W'.heap.size h a n c X ∧ F X) (W'.alloc (tmCells h a n c)) :=
  (k.mv (hb.alloc hb.size _)).and (later_var W' h a n c)
/-- A new variable that holds a term whose arguments lie in memory. -/
theorem Later.pushT {F : World → Prop} {W W' : World} (k : Later F W) (hb : Below W.heap.size W W') (x : T) (a : Option Addr) (c : Nat) (hA : IsArgs W'.heap.size W' x.args a c) : Later (fun X => Vc W'.heap.size x.head a x.args.length c X ∧ IsArgs X.heap.size X x.args a c ∧ F X) (W'.alloc (tmCells x.head a x.args.length c)) :=
  ((k.mv (hb.alloc hb.size _)).and ((later_args hA).mv ((Below.refl _ _).alloc (Nat.le_refl _) _))).and (later_var W' _ a _ c)
theorem heap_alloc_size (W : World) (o : Obj) : (W.alloc o).heap.size = W.heap.size + 1 := by simp

end Go.Proofs.YtleohdddaadbeaaGreat

/- Signatures in memory: plain definitions. -/
namespace Go.Proofs.YtleohdddaadbeaaGreat
set_option linter.unusedVariables false
set_option linter.unusedSimpArgs false
open Go.RowKit

structure Sy where
  name : ByteArray
  ar : Int
  wt : Int
  tr : Bool
  deriving DecidableEq
abbrev Sg := List Sy

def Sy.cells (x : Sy) : List Value := [.string x.name, .int .i64 x.ar, .int .i64 x.wt, .bool x.tr]
abbrev sy (x : Sy) : Value := .agg #[.string x.name, .int .i64 x.ar, .int .i64 x.wt, .bool x.tr]
def Sy.wf (x : Sy) : Prop := x.name.size ≤ maxLen ∧ (Lit.int .i64 x.ar).wf = true ∧ (Lit.int .i64 x.wt).wf = true
def IsSy (W : World) (x : Sy) (b o : Nat) : Prop :=
  x.wf ∧ W.cell? ⟨b, o, none⟩ = some (.string x.name) ∧ W.cell? ⟨b, o + 1, none⟩ = some (.int .i64 x.ar) ∧ W.cell? ⟨b, o + 2, none⟩ = some (.int .i64 x.wt) ∧ W.cell? ⟨b, o + 3, none⟩ = some (.bool x.tr)
def IsSg (n₀ : Nat) (W : World) (g : Sg) (a : Option Addr) (c : Nat) : Prop :=
  g.length ≤ c ∧ c ≤ maxLen ∧ (g = [] ∨ ∃ b o, a = some ⟨b, o, none⟩ ∧ b < n₀ ∧ ∀ (j : Nat) (x : Sy), g[j]? = some x → IsSy W x b (o + j * 4))
theorem IsSg.below {n₀ : Nat} {w w' : World} {g : Sg} {a : Option Addr} {c : Nat} (h : IsSg n₀ w g a c) (hb : Below n₀ w w') : IsSg n₀ w' g a c := by
  obtain ⟨h1, h2, h3⟩ := h
  refine ⟨h1, h2, ?_⟩
  rcases h3 with h3 | ⟨b, o, h4, h5, h6⟩
  · exact .inl h3
  · refine .inr ⟨b, o, h4, h5, fun j x hx => ?_⟩
    obtain ⟨p0, p1, p2, p3, p4⟩ := h6 j x hx
    exact ⟨p0, (hb.cell (p := ⟨b, _, none⟩) h5).trans p1, (hb.cell (p := ⟨b, _, none⟩) h5).trans p2, (hb.cell (p := ⟨b, _, none⟩) h5).trans p3, (hb.cell (p := ⟨b, _, none⟩) h5).trans p4⟩
theorem IsSg.mono {n₀ n₁ : Nat} {w : World} {g : Sg} {a : Option Addr} {c : Nat} (h : IsSg n₀ w g a c) (hn : n₀ ≤ n₁) : IsSg n₁ w g a c := by
  obtain ⟨h1, h2, h3⟩ := h
  refine ⟨h1, h2, ?_⟩
  rcases h3 with h3 | ⟨b, o, h4, h5, h6⟩
  · exact .inl h3
  · exact .inr ⟨b, o, h4, by omega, h6⟩
theorem later_sg {W : World} {g : Sg} {a : Option Addr} {c : Nat} (h : IsSg W.heap.size W g a c) : Later (fun X => IsSg X.heap.size X g a c) W := fun X hX => (h.below hX).mono hX.size
theorem IsSg.elem {n₀ : Nat} {w : World} {g : Sg} {a : Option Addr} {c : Nat} (h : IsSg n₀ w g a c) {i : Nat} (hi : i < g.length) :
    ∃ (b o : Nat) (x : Sy), a = some ⟨b, o, none⟩ ∧ b < n₀ ∧ g[i]? = some x ∧ x.wf ∧ w.cell? ⟨b, o + i * 4, none⟩ = some (.string x.name) ∧ w.cell? ⟨b, o + i * 4 + 1, none⟩ = some (.int .i64 x.ar) ∧
      w.cell? ⟨b, o + i * 4 + 2, none⟩ = some (.int .i64 x.wt) ∧ w.cell? ⟨b, o + i * 4 + 3, none⟩ = some (.bool x.tr) := by
  obtain ⟨_, _, h3⟩ := h
  rcases h3 with rfl | ⟨b, o, rfl, h4, h5⟩
  · simp at hi
  · obtain ⟨p0, p1, p2, p3, p4⟩ := h5 i _ (List.getElem?_eq_getElem hi)
    exact ⟨b, o, g[i], rfl, h4, List.getElem?_eq_getElem hi, p0, p1, p2, p3, p4⟩

/-! ### What the document says of signatures -/
/-- May the symbol not be in a signature? -/
def badSy (x : Sy) : Bool := decide (x.name.size < 1) || decide (64 < x.name.size) || decide (x.ar < 0) || decide (8 < x.ar) || decide (x.wt < 1) || decide (1000 < x.wt)
/-- The number of the first symbol of that name; -1: none. -/
def idxSy (name : ByteArray) : Sg → Option Nat
  | [] => none
  | x :: g => if x.name = name then some 0 else (idxSy name g).map (· + 1)
theorem idxSy_get {name : ByteArray} : ∀ {g : Sg} {i : Nat}, idxSy name g = some i → ∃ x, g[i]? = some x ∧ x.name = name ∧ ∀ (j : Nat) (y : Sy), j < i → g[j]? = some y → y.name ≠ name
  | [], i, h => by simp [idxSy] at h
  | x :: g, i, h => by
    simp only [idxSy] at h
    split at h
    · rename_i hx
      obtain rfl := Option.some.inj h
      exact ⟨x, rfl, hx, fun j y hj => by omega⟩
    · rename_i hx
      rw [Option.map_eq_some_iff] at h
      obtain ⟨k, hk, rfl⟩ := h
      obtain ⟨y, h1, h2, h3⟩ := idxSy_get hk
      refine ⟨y, by simpa using h1, h2, fun j z hj hz => ?_⟩
      cases j with
      | zero => simp at hz; subst hz; exact hx
      | succ j => exact h3 j z (by omega) (by simpa using hz)
theorem idxSy_none {name : ByteArray} : ∀ {g : Sg}, idxSy name g = none → ∀ x ∈ g, x.name ≠ name
  | [], h => by simp
  | x :: g, h => by
    simp only [idxSy] at h
    split at h
    · cases h
    · rename_i hx
      have := idxSy_none (Option.map_eq_none_iff.1 h)
      intro y hy
      rcases List.mem_cons.1 hy with rfl | hy
      · exact hx
      · exact this y hy
/-- Found at k, where none before has the name. -/
theorem idxSy_hit {name : ByteArray} : ∀ {g : Sg} {k : Nat} {x : Sy}, (∀ (j : Nat) (y : Sy), j < k → g[j]? = some y → y.name ≠ name) → g[k]? = some x → x.name = name → idxSy name g = some k
  | [], k, x, _, h, _ => by simp at h
  | y :: g, 0, x, _, h, hx => by simp at h; subst h; simp [idxSy, hx]
  | y :: g, k + 1, x, hno, h, hx => by
    have h0 := hno 0 y (by omega) rfl
    have := idxSy_hit (g := g) (k := k) (fun j z hj hz => hno (j + 1) z (by omega) (by simpa using hz)) (by simpa using h) hx
    simp [idxSy, h0, this]
theorem idxSy_miss {name : ByteArray} : ∀ {g : Sg}, (∀ (j : Nat) (y : Sy), g[j]? = some y → y.name ≠ name) → idxSy name g = none
  | [], _ => rfl
  | y :: g, h => by
    have h0 := h 0 y rfl
    have := idxSy_miss (g := g) (fun j z hz => h (j + 1) z (by simpa using hz))
    simp [idxSy, h0, this]
/-- Is each symbol the first of its name? -/
def difSg (g : Sg) : Bool := (List.range g.length).all fun i => match g[i]? with
  | some x => decide (idxSy x.name g = some i)
  | none => true
def sy0 : Sy := { name := ⟨#[36, 116, 114, 117, 101]⟩, ar := 0, wt := 1, tr := true }
def rightG (g : Sg) : Bool := decide (1 ≤ g.length) && decide (g.length ≤ 256) && decide (g[0]? = some sy0) && !(g.any badSy) && difSg g
def errG (g : Sg) : Int := if rightG g then 0 else 1

/-- Do all symbols of a term stand in the signature, with as many arguments? -/
def armOk (g : Sg) (h : Int) (n : Nat) : Bool := decide (h < 0) || match g[h.toNat]? with
  | some x => decide ((n : Int) = x.ar)
  | none => false
mutual
def fitsT (g : Sg) : T → Bool
  | .node h ts => decide (h < 0) || (armOk g h ts.length && fitsL g ts)
def fitsL (g : Sg) : List T → Bool
  | [] => true
  | t :: ts => fitsT g t && fitsL g ts
end
theorem fitsT_eq (g : Sg) (t : T) : fitsT g t = (decide (t.head < 0) || (armOk g t.head t.args.length && fitsL g t.args)) := by cases t; rfl
theorem fitsL_all (g : Sg) (ts : List T) : fitsL g ts = ts.all (fitsT g) := by
  induction ts with
  | nil => rfl
  | cons t ts ih => simp [fitsL, ih]
/-- Is the symbol a predicate? -/
def predS (g : Sg) (h : Int) : Bool := decide (0 ≤ h) && match g[h.toNat]? with
  | some x => x.tr
  | none => false
mutual
def predT (g : Sg) : T → Bool
  | .node h ts => predS g h || predL g ts
def predL (g : Sg) : List T → Bool
  | [] => false
  | t :: ts => predT g t || predL g ts
end
theorem predT_eq (g : Sg) (t : T) : predT g t = (predS g t.head || predL g t.args) := by cases t; rfl
theorem predL_any (g : Sg) (ts : List T) : predL g ts = ts.any (predT g) := by
  induction ts with
  | nil => rfl
  | cons t ts ih => simp [predL, ih]
def errT (g : Sg) (t : T) : Int := if rightG g then if t.check = 0 then if fitsT g t then if predL g t.args then 10 else 0 else 1 else t.check else 1
/-- The weight of a head. -/
def wo (g : Sg) (h : Int) : Int := if h < 0 then 1 else match g[h.toNat]? with
  | some x => x.wt
  | none => 0
mutual
def wtT (g : Sg) : T → Int
  | .node h ts => wo g h + wtL g ts
def wtL (g : Sg) : List T → Int
  | [] => 0
  | t :: ts => wtT g t + wtL g ts
end
theorem wtT_eq (g : Sg) (t : T) : wtT g t = wo g t.head + wtL g t.args := by cases t; rfl

end Go.Proofs.YtleohdddaadbeaaGreat

/- Kbo's greatestFirst: a copy, sorted; the greatest first. -/
namespace Go.Proofs.YtleohdddaadbeaaGreat
set_option linter.unusedVariables false
set_option linter.unusedSimpArgs false
open Go.RowKit

/-- The order by which it sorts. -/
theorem swoT {α : Type} (k : α → T) : Go.Sort.SWO (ltOf fun x y => T.cmp (k y) (k x)) where
  irrefl x := by show decide (T.cmp (k x) (k x) < 0) = false; rw [T.cmp_self]; rfl
  trans x y z h1 h2 := by
    simp only [ltOf, decide_eq_true_eq] at *
    exact T.cmp_trans _ _ _ h2 h1
  ntrans x y z h1 h2 := by
    simp only [ltOf, decide_eq_false_iff_not] at *
    have e1 := T.cmp_neg (k x) (k y)
    have e2 := T.cmp_neg (k y) (k z)
    have e3 := T.cmp_neg (k x) (k z)
    have := T.cmp_le_trans (x := k z) (y := k y) (z := k x)
    intro h
    have h3 := (T.cmp_le_trans (x := k x) (y := k y) (z := k z) (by omega) (by omega)).1
    omega

set_option maxRecDepth 100000 in
theorem gf1_any (t u : T) (ht : t.size ≤ 1000000000000) (hu : u.size ≤ 1000000000000) (n₀ : Nat) (a : Option Addr) (c : Nat) (a' : Option Addr) (c' : Nat) (w : World) (hn : n₀ ≤ w.heap.size) (hwt : (Lit.int .i64 t.head).wf = true) (hwu : (Lit.int .i64 u.head).wf = true) (hA : IsArgs n₀ w t.args a c) (hA' : IsArgs n₀ w u.args a' c') :
    Calls Tryz.prog 71 #[tm t.head a t.args.length c, tm u.head a' u.args.length c'] w fun e w' => e = .returned (.int .i64 (T.cmp u t)) ∧ Below w.heap.size w w' := by
  have hF : Below w.heap.size w ((w.alloc (tmCells t.head a t.args.length c)).alloc (tmCells u.head a' u.args.length c')) := ((Below.refl _ w).alloc (Nat.le_refl _) _).alloc (by simp) _
  have HC := Lib.hid (compare_any u t hu ht n₀ a' c' a c _ (Nat.le_trans hn hF.size) hwu hwt (hA'.below (hF.mono hn)) (hA.below (hF.mono hn)))
  have HF := Lib.hid hF
  clear hF hA hA'
  go_enter Tryz.func71, Tryz.ntmps71
  go_wp2_with fail
  refine HC.out.mono ?_
  rintro e w2 ⟨rfl, hb2⟩
  have HB := Lib.hid (HF.out.trans (hb2.mono HF.out.size))
  clear hb2
  go_wp2
  go_ret
  exact ⟨rfl, HB.out⟩

/-- Sorted, the greatest first. -/
def Desc (us : List T) : Prop := us.Pairwise fun x y => 0 ≤ T.cmp x y
def GfPost (ts : List T) (w : World) (e : Ending) (w' : World) : Prop :=
  ∃ us a c, e = .returned (.slice a us.length c) ∧ us.Perm ts ∧ Desc us ∧ IsArgs w'.heap.size w' us a c ∧ (a = none → c = 0) ∧ Below w.heap.size w w'

set_option maxRecDepth 100000 in
set_option maxHeartbeats 2000000 in
theorem greatestFirst_any (ts : List T) (hts : ts.length ≤ 1000000000000) (hsz : ∀ t ∈ ts, t.size ≤ 1000000000000) (n₀ : Nat) (a : Option Addr) (c : Nat) (w : World) (hn : n₀ ≤ w.heap.size) (hA : IsArgs n₀ w ts a c) :
    Calls Tryz.prog 49 #[.slice a ts.length c] w (GfPost ts w) := by
  have HC := Lib.hid (cloneN_any ts hts n₀ a c w hn hA)
  have eg := enters_of Tryz.func71 (by kernel_rfl) rfl
  have HS := Lib.hid (fun (g cap : Nat) (W : World) (hg1 : w.heap.size ≤ g) (hg2 : g < W.heap.size) (hR : IsRow n₀ W ts g 0) (hfr : ∀ j, j < ts.length * 2 → W.frozen? ⟨g, j, none⟩ = false) =>
    sortT_any 71 eg (fun x y => T.cmp y x) swoT ts hts n₀ g cap W (by omega) hg2 hR hfr (fun x y a c a' c' X hx hy hX hxw hyw hxA hyA =>
      gf1_any x y (hsz x hx) (hsz y hy) n₀ a c a' c' X (by have := hX.size; omega) hxw hyw hxA hyA))
  have HZ := Lib.hid (fun (p : Option Addr) (cap : Nat) (W : World) => sortC_zero p cap (.func (.func 71) #[] #[]) W)
  have HAl := Lib.hid hts
  clear hA hts
  go_enter Tryz.func49, Tryz.ntmps49
  go_wp2_with fail
  refine HC.out.mono ?_
  rintro e w2 ⟨a2, c2, rfl, ⟨h1, h2, h3⟩, hb2, hnl⟩
  have HB2 := Lib.hid hb2
  have HNL := Lib.hid hnl
  clear hnl
  rcases h3 with h3 | ⟨g, cur, rfl, hg, hh, hcs, hrow⟩
  · subst h3
    have HP := Lib.hid (And.intro h1 h2)
    clear hb2 h1 h2
    go_wp2_with fail
    refine (HZ.out _ _ _).mono ?_
    rintro e w3 ⟨rfl, hw3⟩
    subst hw3
    go_wp2
    go_ret
    exact ⟨[], a2, c2, rfl, List.Perm.refl _, List.Pairwise.nil, ⟨HP.out.1, HP.out.2, .inl rfl⟩, HNL.out, HB2.out⟩
  · have hgl : g < w2.heap.size := (Array.getElem?_eq_some_iff.1 hh).1
    have HS2 := Lib.hid (HS.out g c2 w2 hg hgl hrow (fun j hj => by simp [World.frozen?, hh]))
    have HP := Lib.hid (And.intro h1 h2)
    have HG := Lib.hid hg
    clear hb2 h1 h2 hh hcs hrow hg
    go_wp2_with fail
    refine HS2.out.mono ?_
    rintro e w3 ⟨rfl, us, hp, hd, hr3, hgr⟩
    have HUS := Lib.hid (And.intro hp hd)
    have HR := Lib.hid hr3
    have HGR := Lib.hid hgr
    have HL := Lib.hid hp.length_eq
    clear hp hd hr3 hgr
    go_wp2
    go_ret
    have hb3 : Below w.heap.size w w3 := HB2.out.grown HGR.out HB2.out.size (fun k e => by cases e; exact HG.out)
    refine ⟨us, _, c2, by rw [HL.out]; rfl, HUS.out.1, HUS.out.2, ⟨by rw [HL.out]; exact HP.out.1, HP.out.2, .inr ⟨g, 0, rfl, Nat.lt_of_lt_of_le hgl HGR.out.size, HR.out.mono (Nat.le_trans hn hb3.size)⟩⟩, (fun e => by cases e), hb3⟩

end Go.Proofs.YtleohdddaadbeaaGreat
