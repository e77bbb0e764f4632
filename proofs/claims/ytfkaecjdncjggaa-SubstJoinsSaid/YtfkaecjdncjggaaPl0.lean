/- Memory of variables; rows of numbers and append. -/
import Derived.Test.YtfkaecjdncjggaaPos
import Derived.Test.YtfkaecjdncjggaaVars
import Derived.Test.YtfkaecjdncjggaaRef
import Derived.Test.YtfkaecjdncjggaaOrd
import Derived.Test.YtfkaecjdncjggaaCount
import Derived.Laws.AppendOwnNone
namespace Go.Proofs.Ytfkaecjdncjggaa
set_option linter.unusedVariables false
set_option linter.unusedSimpArgs false
open Go.RowKit

theorem T.args_node (h : Int) (ts : List T) : (T.node h ts).args = ts := rfl
theorem var_alloc {w0 w' W : World} (h : Below w0.heap.size w0 w') (hd : Int) (a : Option Addr) (n c : Nat) (hW : Below (w'.alloc (tmCells hd a n c)).heap.size (w'.alloc (tmCells hd a n c)) W) :
    W.cell? ⟨w'.heap.size, 0, none⟩ = some (.int .i64 hd) ∧ W.cell? ⟨w'.heap.size, 1, none⟩ = some (.slice a n c) ∧ Below w0.heap.size w0 W ∧ Below w'.heap.size w' W := by
  refine ⟨(hW.cell (p := ⟨w'.heap.size, 0, none⟩) (by simp)).trans (by simp [go_sem]), (hW.cell (p := ⟨w'.heap.size, 1, none⟩) (by simp)).trans (by simp [go_sem]), ?_, ?_⟩
  · exact (h.alloc h.size _).trans (hW.mono (by have := h.size; simp; omega))
  · exact ((Below.refl _ _).alloc (Nat.le_refl _) _).trans (hW.mono (by simp))

theorem sameAt_any (x y : T) (h : x = y) (hs : x.size ≤ 1000000) (n₀ : Nat) (a : Option Addr) (c : Nat) (a' : Option Addr) (c' : Nat) (w : World) (hn : n₀ ≤ w.heap.size) (hA : IsArgs n₀ w x.args a c) (hB : IsArgs n₀ w y.args a' c') :
    Calls Try.prog 18 #[tm x.head a x.args.length c, tm y.head a' y.args.length c'] w fun e w' => e = .returned (.bool true) ∧ Below w.heap.size w w' := by
  subst h
  refine (refSame_any x x hs hs n₀ a c a' c' w hn hA hB).mono fun e w' hh => ⟨?_, hh.2⟩
  rw [hh.1, T.cmp_self]; rfl

/-- A variable that holds a term, in later worlds. -/
theorem var_term {w0 w' : World} (h : Below w0.heap.size w0 w') (x : T) (a : Option Addr) (c : Nat) (hA : IsArgs w'.heap.size w' x.args a c) (W : World) (hW : Below (w'.alloc (tmCells x.head a x.args.length c)).heap.size (w'.alloc (tmCells x.head a x.args.length c)) W) :
    W.cell? ⟨w'.heap.size, 0, none⟩ = some (.int .i64 x.head) ∧ W.cell? ⟨w'.heap.size, 1, none⟩ = some (.slice a x.args.length c) ∧ Below w0.heap.size w0 W ∧ IsArgs W.heap.size W x.args a c := by
  obtain ⟨h1, h2, h3, h4⟩ := var_alloc h x.head a x.args.length c hW
  exact ⟨h1, h2, h3, (hA.below h4).mono h4.size⟩

def Z0 : T := .node 0 []

theorem isIs_of_owns {base : Nat} {W : World} {v : Value} {p : List Int} (h : W.ownsRow base 3 1 v p.length (p.map (Value.int .i64))) : ∃ a c, v = .slice a p.length c ∧ IsIs W.heap.size W p a c := by
  have hcells := fun g hg => h.cells (g := g) hg
  rcases h.2 with ⟨rfl, h0⟩ | ⟨g, cap, cur, rfl, hg, hh, hn, hc, _⟩
  · exact ⟨none, 0, by rw [h0], by omega, by simp [maxLen], .inl (List.eq_nil_of_length_eq_zero h0)⟩
  · refine ⟨_, cap, rfl, hn, hc, .inr ⟨g, 0, rfl, (Array.getElem?_eq_some_iff.1 hh).1, fun j z hz => ?_⟩⟩
    have := hcells g rfl j (.int .i64 z) (by simp [hz])
    rw [addr_add] at this
    simpa using this

/-- append(v, zs...), where v is a row of one's own. -/
theorem wpList_append_is {w : World} {ops : Array Oper} {rest : List Oper} {o : Oper} {a : Act} {Q : Exit → Act → World → Prop} (hgd : o.guard = none) (s x : Operand)
    (ho : o.op = .call { callee := .builtin .append, args := #[s, x], argTypes := #[45, 45] }) (base : Nat) (v : Value) (n : Nat) (xs : List Value) (hs : a.eval s = v) (hown : w.ownsRow base 3 1 v n xs)
    (zs : List Int) (a' : Option Addr) (c' : Nat) (n₀ : Nat) (hx : a.eval x = .slice a' zs.length c') (hI : IsIs n₀ w zs a' c') (hnil : a' = none → c' = 0) (hl : n + zs.length ≤ 1000000) (hbase : base ≤ w.heap.size)
    (h : ∀ v' w', w'.ownsRow base 3 1 v' (n + zs.length) (xs ++ zs.map (Value.int .i64)) → w.grownBy w' v.ownBlock → wpList Try.prog ops Q rest (a.put o.dst v') w') : wpList Try.prog ops Q (o :: rest) a w := by
  obtain ⟨i0, hi, hz0, hz1, hz2⟩ := info_parts info3
  cases a' with
  | none =>
    obtain rfl := hnil rfl
    have h0 : zs = [] := by rcases hI.2.2 with h | ⟨_, _, h, _⟩; exact h; cases h
    subst h0
    refine wpList_append_own_none hgd s x 45 ho base 3 i0 1 Try.underlying45 hi v n xs hs hown hx ?_
    exact h v w (by simpa using hown) ⟨rfl, rfl, rfl, Nat.le_refl _, fun _ _ _ => rfl⟩
  | some ad =>
    refine wpList_append_own w hgd s x 45 ho base 3 i0 (.int .i64 0) 1 8 Try.underlying45 hi hz0 hz1 hz2 rfl (by decide) v n xs hs hown ad zs.length c' (zs.map (Value.int .i64)) hx (by simp) (fun j u hj => ?_) (by intro u hu; obtain ⟨z, _, rfl⟩ := List.mem_map.1 hu; rfl) (by unfold maxLen; omega) (by omega) hbase (fun v' w' h1 h2 _ => h v' w' h1 h2)
    rw [List.getElem?_map, Option.map_eq_some_iff] at hj
    obtain ⟨z, hz, rfl⟩ := hj
    rcases hI.2.2 with rfl | ⟨b, o', e, _, h6⟩
    · simp at hz
    · cases e
      rw [addr_add]
      exact h6 j z hz


end Go.Proofs.Ytfkaecjdncjggaa
