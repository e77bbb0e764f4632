/- Mem: plain lemmas on worlds, rows and terms in memory whose blocks meet a condition. -/
import Derived.Test.YtacbkiknpnokcaaRCp0
import Derived.Maps.OwnSet
import Derived.Deep.OwnRows
import Derived.IntWalk
namespace Go.Proofs.Ytacbkiknpnokcaa
set_option linter.unusedVariables false
set_option linter.unusedSimpArgs false
open Go.RowKit Go.Maps

namespace Mm
theorem ownsMap_exact {P : Program} {k : TypeId} {R : Value → Option (DataW Value × List MemPlace)} {w : World} {b n : Nat} {D : DataW Value} (h : w.ownsMap P k R b n D) : w.ownsMap P k R b (Maps.size D) D := by
  have := h.size_le
  obtain ⟨es, clock, hb, F, hs, rfl⟩ := h
  exact ⟨es, clock, hb, F, by simp [Maps.size, length_sorted], rfl⟩
def held (v : Value) : Option (DataW Value × List MemPlace) := some (.held v, [])
def wfi (v : Int) : Prop := -9223372036854775808 ≤ v ∧ v ≤ 9223372036854775807
theorem wfi.wf {v : Int} (h : wfi v) : (Lit.int .i64 v).wf = true := WalkArith.wf_i64 h
theorem wfi_of {z : Int} (h : (Lit.int .i64 z).wf = true) : wfi z := by
  simp only [Lit.wf, Bool.and_eq_true, decide_eq_true_iff] at h
  have h1 : IntKind.i64.min = -9223372036854775808 := by decide
  have h2 : IntKind.i64.max = 9223372036854775807 := by decide
  unfold wfi
  omega
theorem cell_of_block {w w' : World} {a : Addr} (h : w'.heap[a.block]? = w.heap[a.block]?) : w'.cell? a = w.cell? a := by simp only [World.cell?, h]
theorem frozen_of_block {w w' : World} {a : Addr} (h : w'.heap[a.block]? = w.heap[a.block]?) : w'.frozen? a = w.frozen? a := by simp only [World.frozen?, h]
theorem cell_grown {w w' : World} {r : Option Nat} (h : w.grownBy w' r) {p : Addr} (hp : p.block < w.heap.size) (hne : some p.block ≠ r) : w'.cell? p = w.cell? p := cell_of_block (h.block p.block hp hne)
theorem frozen_grown {w w' : World} {r : Option Nat} (h : w.grownBy w' r) {p : Addr} (hp : p.block < w.heap.size) (hne : some p.block ≠ r) : w'.frozen? p = w.frozen? p := frozen_of_block (h.block p.block hp hne)
theorem grownBy_refl (w : World) (r : Option Nat) : w.grownBy w r := ⟨rfl, rfl, rfl, Nat.le_refl _, fun _ _ _ => rfl⟩
theorem grownBy_trans {a b c : World} {r : Option Nat} (h : a.grownBy b r) (k : b.grownBy c r) : a.grownBy c r :=
  ⟨k.os.trans h.os, k.tape.trans h.tape, k.output.trans h.output, Nat.le_trans h.size k.size, fun i hi hne => (k.block i (Nat.lt_of_lt_of_le hi h.size) hne).trans (h.block i hi hne)⟩
theorem rowBlock {w : World} {base : Nat} {e : TypeId} {size : Nat} {v : Value} {k : Nat} {xs : List Value} (h : w.ownsRow base e size v k xs) {b : Nat} (hb : v.ownBlock = some b) : base ≤ b ∧ b < w.heap.size ∧ ∃ cur, w.heap[b]? = some (.cells cur e (0, 0)) := by
  have hlt := h.lt b hb
  rcases h.2 with ⟨rfl, _⟩ | ⟨g, cap, cur, rfl, hg, hh, _⟩
  · cases hb
  · simp only [Value.ownBlock, Option.some.injEq] at hb
    subst hb
    exact ⟨hlt.1, hlt.2, cur, hh⟩
theorem ownsRow_kept {w w' : World} {base : Nat} {e : TypeId} {size : Nat} {v : Value} {k : Nat} {xs : List Value} (h : w.ownsRow base e size v k xs) (hb : ∀ b, v.ownBlock = some b → w'.heap[b]? = w.heap[b]?) : w'.ownsRow base e size v k xs := by
  obtain ⟨h1, h2⟩ := h
  refine ⟨h1, ?_⟩
  rcases h2 with h2 | ⟨g, cap, cur, rfl, p1, p2, p3⟩
  · exact .inl h2
  · exact .inr ⟨g, cap, cur, rfl, p1, (hb g rfl).trans p2, p3⟩
theorem idx_old {α : Type} [BEq α] [LawfulBEq α] {N : List α} {u v : α} (h : u ∈ N) : (N ++ [v]).idxOf u = N.idxOf u := by
  rw [List.idxOf_append, if_pos h]
theorem idx_new {α : Type} [BEq α] [LawfulBEq α] {N : List α} {v : α} (h : v ∉ N) : (N ++ [v]).idxOf v = N.length := by
  rw [List.idxOf_append, if_neg h]
  simp
theorem ownsRow_setCell_ne {w : World} {base : Nat} {e : TypeId} {size : Nat} {v : Value} {n : Nat} {xs : List Value} (h : w.ownsRow base e size v n xs) {b o : Nat} (hne : v.ownBlock ≠ some b) (u : Value) : (w.setCell ⟨b, o, none⟩ u).ownsRow base e size v n xs :=
  ownsRow_kept h (fun k hk => Below.heap_setCell _ _ _ _ (fun e => hne (by rw [hk, e])))
theorem cell_via {B : Nat} {w w' : World} {p : Addr} {v : Value} (hb : Below B w w') (hp : p.block < B) (h : w.cell? p = some v) : w'.cell? p = some v := (hb.cell hp).trans h
theorem frozen_via {B : Nat} {w w' : World} {p : Addr} (hb : Below B w w') (hp : p.block < B) (h : w.frozen? p = false) : w'.frozen? p = false := (hb.frozen hp).trans h
end Mm

theorem IsRowp.at {ok : Nat → Prop} {w : World} {ts : List T} {b o : Nat} (h : IsRowp ok w ts b o) {i : Nat} {t : T} (hi : ts[i]? = some t) : IsTp ok w t b (o + i * 2) := by
  induction ts generalizing o i with
  | nil => simp at hi
  | cons s ts ih =>
    simp only [IsRowp] at h
    cases i with
    | zero => simp at hi; subst hi; exact h.1
    | succ i =>
      have := ih h.2 (i := i) (by simpa using hi)
      rw [show o + (i + 1) * 2 = o + 2 + i * 2 from by omega]; exact this
theorem IsArgsp.elem {ok : Nat → Prop} {w : World} {ts : List T} {a : Option Addr} {c : Nat} (h : IsArgsp ok w ts a c) {i : Nat} (hi : i < ts.length) :
    ∃ (b o : Nat) (t : T) (a' : Option Addr) (c' : Nat), a = some ⟨b, o, none⟩ ∧ ok b ∧ ts[i]? = some t ∧ (Lit.int .i64 t.head).wf = true ∧ w.cell? ⟨b, o + i * 2, none⟩ = some (.int .i64 t.head) ∧
      w.cell? ⟨b, o + i * 2 + 1, none⟩ = some (.slice a' t.args.length c') ∧ IsArgsp ok w t.args a' c' := by
  obtain ⟨_, _, h3⟩ := h
  rcases h3 with rfl | ⟨b, o, rfl, h4, h5⟩
  · simp at hi
  · have ht := h5.at (List.getElem?_eq_getElem hi)
    obtain ⟨p0, p1, a', c', p2, p3⟩ := isTp_iff.1 ht
    exact ⟨b, o, _, a', c', rfl, h4, List.getElem?_eq_getElem hi, p0, p1, p2, p3⟩

end Go.Proofs.Ytacbkiknpnokcaa
