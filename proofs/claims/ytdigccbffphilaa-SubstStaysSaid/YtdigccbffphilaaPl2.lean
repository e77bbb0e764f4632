/- Sizes of what is put; rows of numbers and append. -/
import Derived.Test.YtdigccbffphilaaPl
import Derived.Laws.AppendOwnNone
namespace Go.Proofs.Ytdigccbffphilaa
set_option linter.unusedVariables false
set_option linter.unusedSimpArgs false
open Go.RowKit

theorem T.sizes_modify {k : Nat} {f : T → T} (hf : ∀ x : T, (f x).size ≤ x.size + k) : ∀ (ts : List T) (n : Nat), T.sizes (ts.modify n f) ≤ T.sizes ts + k
  | [], n => by simp [T.sizes]
  | t :: ts, 0 => by simp only [List.modify_zero_cons, T.sizes]; have := hf t; omega
  | t :: ts, n + 1 => by simp only [List.modify_succ_cons, T.sizes]; have := T.sizes_modify hf ts n; omega
theorem T.put_size (u : T) : ∀ (p : List Int) (t : T), (t.put u p).size ≤ t.size + u.size
  | [], t => by simp only [T.put]; omega
  | i :: p, t => by
    simp only [T.put, T.size]
    have h1 := T.sizes_modify (k := u.size) (f := fun s => s.put u p) (fun x => T.put_size u p x) t.args i.toNat
    have h2 := T.size_eq t
    omega

theorem isIs_of_owns {base : Nat} {W : World} {v : Value} {p : List Int} (h : W.ownsRow base 3 1 v p.length (p.map (Value.int .i64))) : ∃ a c, v = .slice a p.length c ∧ IsIs W.heap.size W p a c := by
  have hcells := fun g hg => h.cells (g := g) hg
  rcases h.2 with ⟨rfl, h0⟩ | ⟨g, cap, cur, rfl, hg, hh, hn, hc, _⟩
  · exact ⟨none, 0, by rw [h0], by omega, by simp [maxLen], .inl (List.eq_nil_of_length_eq_zero h0)⟩
  · refine ⟨_, cap, rfl, hn, hc, .inr ⟨g, 0, rfl, (Array.getElem?_eq_some_iff.1 hh).1, fun j z hz => ?_⟩⟩
    have := hcells g rfl j (.int .i64 z) (by simp [hz])
    rw [addr_add] at this
    simpa using this

/-- append(v, zs...), where v is a row of one's own. -/
theorem wpList_append_is {w : World} {ops : Array Oper} {rest : List Oper} {o : Oper} {a : Act} {Q : Exit → Act → World → Prop} (hgd : o.guard = none) (s x : Operand)
    (ho : o.op = .call { callee := .builtin .append, args := #[s, x], argTypes := #[25, 25] }) (base : Nat) (v : Value) (n : Nat) (xs : List Value) (hs : a.eval s = v) (hown : w.ownsRow base 3 1 v n xs)
    (zs : List Int) (a' : Option Addr) (c' : Nat) (n₀ : Nat) (hx : a.eval x = .slice a' zs.length c') (hI : IsIs n₀ w zs a' c') (hnil : a' = none → c' = 0) (hl : n + zs.length ≤ 1000000) (hbase : base ≤ w.heap.size)
    (h : ∀ v' w', w'.ownsRow base 3 1 v' (n + zs.length) (xs ++ zs.map (Value.int .i64)) → w.grownBy w' v.ownBlock → wpList Try.prog ops Q rest (a.put o.dst v') w') : wpList Try.prog ops Q (o :: rest) a w := by
  obtain ⟨i0, hi, hz0, hz1, hz2⟩ := info_parts info3
  cases a' with
  | none =>
    obtain rfl := hnil rfl
    have h0 : zs = [] := by rcases hI.2.2 with h | ⟨_, _, h, _⟩; exact h; cases h
    subst h0
    refine wpList_append_own_none hgd s x 25 ho base 3 i0 1 Try.underlying25 hi v n xs hs hown hx ?_
    exact h v w (by simpa using hown) ⟨rfl, rfl, rfl, Nat.le_refl _, fun _ _ _ => rfl⟩
  | some ad =>
    refine wpList_append_own w hgd s x 25 ho base 3 i0 (.int .i64 0) 1 8 Try.underlying25 hi hz0 hz1 hz2 rfl (by decide) v n xs hs hown ad zs.length c' (zs.map (Value.int .i64)) hx (by simp) (fun j u hj => ?_) (by intro u hu; obtain ⟨z, _, rfl⟩ := List.mem_map.1 hu; rfl) (by unfold maxLen; omega) (by omega) hbase (fun v' w' h1 h2 _ => h v' w' h1 h2)
    rw [List.getElem?_map, Option.map_eq_some_iff] at hj
    obtain ⟨z, hz, rfl⟩ := hj
    rcases hI.2.2 with rfl | ⟨b, o', e, _, h6⟩
    · simp at hz
    · cases e
      rw [addr_add]
      exact h6 j z hz

end Go.Proofs.Ytdigccbffphilaa
