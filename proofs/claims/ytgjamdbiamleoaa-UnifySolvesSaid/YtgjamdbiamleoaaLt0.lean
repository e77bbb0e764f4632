/- Lt0: of Lat, what names no reference. -/
import Derived.Test.YtgjamdbiamleoaaTp
import Derived.Test.YtgjamdbiamleoaaVa0
import Derived.Test.YtgjamdbiamleoaaCn0
import Derived.Laws.AppendOwnNone
/- Memory of variables; rows of numbers and append. -/
namespace Go.Proofs.Ytgjamdbiamleoaa
set_option linter.unusedVariables false
set_option linter.unusedSimpArgs false
open Go.RowKit

theorem T.args_node (h : Int) (ts : List T) : (T.node h ts).args = ts := rfl
theorem var_alloc {w0 w' W : World} (h : Below w0.heap.size w0 w') (hd : Int) (a : Option Addr) (n c : Nat) (hW : Below (w'.alloc (tmCells hd a n c)).heap.size (w'.alloc (tmCells hd a n c)) W) :
    W.cell? ⟨w'.heap.size, 0, none⟩ = some (.int .i64 hd) ∧ W.cell? ⟨w'.heap.size, 1, none⟩ = some (.slice a n c) ∧ Below w0.heap.size w0 W ∧ Below w'.heap.size w' W := by
  refine ⟨(hW.cell (p := ⟨w'.heap.size, 0, none⟩) (by simp)).trans (by simp [go_sem]), (hW.cell (p := ⟨w'.heap.size, 1, none⟩) (by simp)).trans (by simp [go_sem]), ?_, ?_⟩
  · exact (h.alloc h.size _).trans (hW.mono (by have := h.size; simp; omega))
  · exact ((Below.refl _ _).alloc (Nat.le_refl _) _).trans (hW.mono (by simp))

/-- A variable that holds a term, in later worlds. -/
theorem var_term {w0 w' : World} (h : Below w0.heap.size w0 w') (x : T) (a : Option Addr) (c : Nat) (hA : IsArgs w'.heap.size w' x.args a c) (W : World) (hW : Below (w'.alloc (tmCells x.head a x.args.length c)).heap.size (w'.alloc (tmCells x.head a x.args.length c)) W) :
    W.cell? ⟨w'.heap.size, 0, none⟩ = some (.int .i64 x.head) ∧ W.cell? ⟨w'.heap.size, 1, none⟩ = some (.slice a x.args.length c) ∧ Below w0.heap.size w0 W ∧ IsArgs W.heap.size W x.args a c := by
  obtain ⟨h1, h2, h3, h4⟩ := var_alloc h x.head a x.args.length c hW
  exact ⟨h1, h2, h3, (hA.below h4).mono h4.size⟩

def Z0 : T := .node 0 []

theorem isIs_of_owns {base : Nat} {W : World} {v : Value} {p : List Int} (h : W.ownsRow base 3 1 v p.length (p.map (Value.int .i64))) : ∃ a c, v = .slice a p.length c ∧ IsIs W.heap.size W p a c := by
  have hcells := fun g hg => h.cells (g := g) hg
  rcases h.2 with ⟨rfl, h0⟩ | ⟨g, cap, cur, rfl, hg, hh, hn, hc, _⟩
  · exact ⟨none, 0, by rw [h0], by omega, by simp [maxLen], .inl (List.eq_nil_of_length_eq_zero h0)⟩
  · refine ⟨_, cap, rfl, hn, hc, .inr ⟨g, 0, rfl, (Array.getElem?_eq_some_iff.1 hh).1, fun j z hz => ?_⟩⟩
    have := hcells g rfl j (.int .i64 z) (by simp [hz])
    rw [addr_add] at this
    simpa using this

/-- append(v, zs...), where v is a row of one's own. -/
theorem wpList_append_is {w : World} {ops : Array Oper} {rest : List Oper} {o : Oper} {a : Act} {Q : Exit → Act → World → Prop} (hgd : o.guard = none) (s x : Operand)
    (ho : o.op = .call { callee := .builtin .append, args := #[s, x], argTypes := #[45, 45] }) (base : Nat) (v : Value) (n : Nat) (xs : List Value) (hs : a.eval s = v) (hown : w.ownsRow base 3 1 v n xs)
    (zs : List Int) (a' : Option Addr) (c' : Nat) (n₀ : Nat) (hx : a.eval x = .slice a' zs.length c') (hI : IsIs n₀ w zs a' c') (hnil : a' = none → c' = 0) (hl : n + zs.length ≤ 1000000000000) (hbase : base ≤ w.heap.size)
    (h : ∀ v' w', w'.ownsRow base 3 1 v' (n + zs.length) (xs ++ zs.map (Value.int .i64)) → w.grownBy w' v.ownBlock → wpList Try.prog ops Q rest (a.put o.dst v') w') : wpList Try.prog ops Q (o :: rest) a w := by
  obtain ⟨i0, hi, hz0, hz1, hz2⟩ := info_parts info3
  cases a' with
  | none =>
    obtain rfl := hnil rfl
    have h0 : zs = [] := by rcases hI.2.2 with h | ⟨_, _, h, _⟩; exact h; cases h
    subst h0
    refine wpList_append_own_none hgd s x 45 ho base 3 i0 1 Try.underlying45 hi v n xs hs hown hx ?_
    exact h v w (by simpa using hown) ⟨rfl, rfl, rfl, Nat.le_refl _, fun _ _ _ => rfl⟩
  | some ad =>
    refine wpList_append_own w hgd s x 45 ho base 3 i0 (.int .i64 0) 1 8 Try.underlying45 hi hz0 hz1 hz2 rfl (by decide) v n xs hs hown ad zs.length c' (zs.map (Value.int .i64)) hx (by simp) (fun j u hj => ?_) (by intro u hu; obtain ⟨z, _, rfl⟩ := List.mem_map.1 hu; rfl) (by unfold maxLen; omega) (by omega) hbase (fun v' w' h1 h2 _ => h v' w' h1 h2)
    rw [List.getElem?_map, Option.map_eq_some_iff] at hj
    obtain ⟨z, hz, rfl⟩ := hj
    rcases hI.2.2 with rfl | ⟨b, o', e, _, h6⟩
    · simp at hz
    · cases e
      rw [addr_add]
      exact h6 j z hz


end Go.Proofs.Ytgjamdbiamleoaa

/- Facts on memory that last: what holds in every later world. -/
namespace Go.Proofs.Ytgjamdbiamleoaa
set_option linter.unusedVariables false
set_option linter.unusedSimpArgs false
open Go.RowKit

/-- F holds in W and in every later world. -/
def Later (F : World → Prop) (W : World) : Prop := ∀ W', Below W.heap.size W W' → F W'
theorem Later.now {F : World → Prop} {W : World} (h : Later F W) : F W := h W (Below.refl _ _)
theorem Later.mv {F : World → Prop} {W W' : World} (h : Later F W) (hb : Below W.heap.size W W') : Later F W' := fun X hX => h X (hb.trans (hX.mono hb.size))
theorem Later.and {F G : World → Prop} {W : World} (h : Later F W) (k : Later G W) : Later (fun X => G X ∧ F X) W := fun X hX => ⟨k X hX, h X hX⟩
theorem Later.below {w W : World} (h : Below w.heap.size w W) : Later (fun X => Below w.heap.size w X) W := fun X hX => h.trans (hX.mono h.size)
theorem later_args {W : World} {ts : List T} {a : Option Addr} {c : Nat} (h : IsArgs W.heap.size W ts a c) : Later (fun X => IsArgs X.heap.size X ts a c) W := fun X hX => (h.below hX).mono hX.size
theorem later_is {W : World} {zs : List Int} {a : Option Addr} {c : Nat} (h : IsIs W.heap.size W zs a c) : Later (fun X => IsIs X.heap.size X zs a c) W := fun X hX => (h.below hX).mono hX.size

/-- A variable of type Term: its two cells. -/
def Vc (b : Nat) (h : Int) (a : Option Addr) (n c : Nat) (X : World) : Prop := X.cell? ⟨b, 0, none⟩ = some (.int .i64 h) ∧ X.cell? ⟨b, 1, none⟩ = some (.slice a n c)
theorem later_var (W : World) (h : Int) (a : Option Addr) (n c : Nat) : Later (Vc W.heap.size h a n c) (W.alloc (tmCells h a n c)) := fun X hX =>
  ⟨(hX.cell (p := ⟨W.heap.size, 0, none⟩) (by simp)).trans (by simp [go_sem]), (hX.cell (p := ⟨W.heap.size, 1, none⟩) (by simp)).trans (by simp [go_sem])⟩
/-- A new variable of type Term, laid in a later world. -/
theorem Later.push {F : World → Prop} {W W' : World} (k : Later F W) (hb : Below W.heap.size W W') (h : Int) (a : Option Addr) (n c : Nat) : Later (fun X => Vc W'.heap.size h a n c X ∧ F X) (W'.alloc (tmCells h a n c)) :=
  (k.mv (hb.alloc hb.size _)).and (later_var W' h a n c)
/-- A new variable that holds a term whose arguments lie in memory. -/
theorem Later.pushT {F : World → Prop} {W W' : World} (k : Later F W) (hb : Below W.heap.size W W') (x : T) (a : Option Addr) (c : Nat) (hA : IsArgs W'.heap.size W' x.args a c) : Later (fun X => Vc W'.heap.size x.head a x.args.length c X ∧ IsArgs X.heap.size X x.args a c ∧ F X) (W'.alloc (tmCells x.head a x.args.length c)) :=
  ((k.mv (hb.alloc hb.size _)).and ((later_args hA).mv ((Below.refl _ _).alloc (Nat.le_refl _) _))).and (later_var W' _ a _ c)
theorem heap_alloc_size (W : World) (o : Obj) : (W.alloc o).heap.size = W.heap.size + 1 := by simp

end Go.Proofs.Ytgjamdbiamleoaa
