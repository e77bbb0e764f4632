/- Contracts of the reference's Behind and All. -/
import Derived.Test.YtdigccbffphilaaPl2
import Derived.Deep.AppendLies
namespace Go.Proofs.Ytdigccbffphilaa
set_option linter.unusedVariables false
set_option linter.unusedSimpArgs false
open Go.RowKit

/-- Blocks of numbers stay as they are. -/
def KeepInt (W W' : World) : Prop := ∀ (q : Nat) (cs : Array Value) (fz : Nat × Nat), W.heap[q]? = some (Obj.cells cs 3 fz) → W'.heap[q]? = W.heap[q]?
theorem KeepInt.trans {A B C : World} (h : KeepInt A B) (k : KeepInt B C) : KeepInt A C := fun q cs fz e => (k q cs fz ((h q cs fz e).trans e)).trans (h q cs fz e)
theorem KeepInt.of_below {A B : World} (h : Below A.heap.size A B) : KeepInt A B := fun q cs fz e => h.block q (Array.getElem?_eq_some_iff.1 e).1
theorem KeepInt.of_grown {A B : World} {base n : Nat} {v : Value} {xs : List Value} (ho : A.ownsRow base 25 1 v n xs) (h : A.grownBy B v.ownBlock) : KeepInt A B := fun q cs fz e => h.block q (Array.getElem?_eq_some_iff.1 e).1 (fun e' => by
  obtain ⟨cs', fz', h'⟩ := own35 ho e'.symm
  rw [e] at h'; simp at h')

/-- A position: nil, or in a block of its own. -/
def PosN (lo : Nat) (W : World) (p : List Int) (x : Value) : Prop := (p = [] ∧ x = .slice none 0 0) ∨ PosV lo W p x
theorem PosV.keepInt {lo : Nat} {W W' : World} {p : List Int} {x : Value} (h : PosV lo W p x) (k : KeepInt W W') : PosV lo W' p x := by
  obtain ⟨g, cap, cur, h1, h2, h3, h4, h5, h6⟩ := h
  have hg := k g cur (0, 0) h3
  exact ⟨g, cap, cur, h1, h2, hg.trans h3, h4, h5, fun j z hz => (World.cell?_of_block (a := ⟨g, j, none⟩) hg).trans (h6 j z hz)⟩
theorem PosN.keepInt {lo : Nat} {W W' : World} {p : List Int} {x : Value} (h : PosN lo W p x) (k : KeepInt W W') : PosN lo W' p x := h.imp id (fun h => h.keepInt k)
theorem PosN.isIs {lo : Nat} {W : World} {p : List Int} {x : Value} (h : PosN lo W p x) : ∃ a c, x = .slice a p.length c ∧ IsIs W.heap.size W p a c ∧ (a = none → c = 0) := by
  rcases h with ⟨rfl, rfl⟩ | h
  · exact ⟨none, 0, rfl, ⟨by simp, by simp [maxLen], .inl rfl⟩, fun _ => rfl⟩
  · obtain ⟨g, cap, cur, h1, _, h3, h4, h5, h6⟩ := h
    exact ⟨_, _, h1, ⟨h4, h5, .inr ⟨g, 0, rfl, (Array.getElem?_eq_some_iff.1 h3).1, fun j z hz => by simpa using h6 j z hz⟩⟩, fun e => by cases e⟩
def PosNs (lo : Nat) (W : World) : List (List Int) → List Value → Prop
  | [], [] => True
  | p :: ps, x :: xs => PosN lo W p x ∧ PosNs lo W ps xs
  | _, _ => False
theorem PosNs.keepInt {lo : Nat} {W W' : World} (k : KeepInt W W') : ∀ {ps : List (List Int)} {xs : List Value}, PosNs lo W ps xs → PosNs lo W' ps xs
  | [], [], _ => trivial
  | _ :: _, _ :: _, ⟨h1, h2⟩ => ⟨h1.keepInt k, PosNs.keepInt k h2⟩
  | [], _ :: _, h => h.elim
  | _ :: _, [], h => h.elim
theorem PosNs.snoc {lo : Nat} {W : World} {p : List Int} {x : Value} (h : PosN lo W p x) : ∀ {ps : List (List Int)} {xs : List Value}, PosNs lo W ps xs → PosNs lo W (ps ++ [p]) (xs ++ [x])
  | [], [], _ => ⟨h, trivial⟩
  | _ :: _, _ :: _, ⟨h1, h2⟩ => ⟨h1, PosNs.snoc h h2⟩
  | [], _ :: _, h => h.elim
  | _ :: _, [], h => h.elim
theorem PosNs.get {lo : Nat} {W : World} : ∀ {ps : List (List Int)} {xs : List Value} {j : Nat} {p : List Int}, PosNs lo W ps xs → ps[j]? = some p → ∃ x, xs[j]? = some x ∧ PosN lo W p x
  | [], [], j, p, _, hj => by simp at hj
  | q :: _, y :: _, 0, p, ⟨h1, _⟩, hj => by simp at hj; subst hj; exact ⟨y, rfl, h1⟩
  | _ :: _, _ :: _, j + 1, p, ⟨_, h2⟩, hj => by
    obtain ⟨x, hx, hp⟩ := PosNs.get h2 (j := j) (p := p) (by simpa using hj)
    exact ⟨x, by simpa using hx, hp⟩
  | [], _ :: _, _, _, h, _ => h.elim
  | _ :: _, [], _, _, h, _ => h.elim
theorem isLs_of_owns' {lo base : Nat} {W : World} {v : Value} {L : List (List Int)} {xs : List Value} (h : W.ownsRow base 25 1 v L.length xs) (hp : PosNs lo W L xs) : ∃ a c, v = .slice a L.length c ∧ IsLs W.heap.size W L a c := by
  have hcells := fun g hg => h.cells (g := g) hg
  rcases h.2 with ⟨rfl, h0⟩ | ⟨g, cap, cur, rfl, hg, hh, hn, hc, _⟩
  · exact ⟨none, 0, by rw [h0], by omega, by simp [maxLen], .inl (List.eq_nil_of_length_eq_zero h0)⟩
  · refine ⟨_, cap, rfl, hn, hc, .inr ⟨g, 0, rfl, (Array.getElem?_eq_some_iff.1 hh).1, fun j zs hj => ?_⟩⟩
    obtain ⟨x, hx, hpx⟩ := hp.get hj
    obtain ⟨a', c', rfl, h2, _⟩ := hpx.isIs
    have := hcells g rfl j _ hx
    rw [addr_add] at this
    exact ⟨a', c', this, h2⟩

def BehPost (i : Int) (p : List Int) (w : World) (e : Ending) (w' : World) : Prop := ∃ v, e = .returned v ∧ PosV w.heap.size w' (i :: p) v ∧ Below w.heap.size w w'

set_option maxRecDepth 100000 in
set_option maxHeartbeats 1000000 in
theorem behind_any (i : Int) (p : List Int) (hl : p.length < 1000000) (n₀ : Nat) (a : Option Addr) (c : Nat) (w : World) (hn : n₀ ≤ w.heap.size) (hI : IsIs n₀ w p a c) (hnil : a = none → c = 0) :
    Calls Try.prog 46 #[.int .i64 i, .slice a p.length c] w (BehPost i p w) := by
  have HI := Lib.hid hI
  have HN := Lib.hid hnil
  clear hI hnil
  go_enter Try.func46, Try.ntmps46
  go_wp2_with (at_builtin; refine stopHere ?_)
  refine Lib.hid ?_
  have hb1 : Below w.heap.size w (w.alloc (.cells #[.int .i64 i] 3)) := (Below.refl _ w).alloc (Nat.le_refl _) _
  refine wpList_append_is rfl _ _ rfl w.heap.size (.slice (some ⟨w.heap.size, 0, none⟩) 1 1) 1 [.int .i64 i] rfl ⟨by simp, .inr ⟨w.heap.size, 1, _, rfl, Nat.le_refl _, heap_alloc_new _ _, Nat.le_refl _, by simp [maxLen], rfl, rfl⟩⟩ p a c n₀ rfl (HI.out.below (hb1.mono hn)) HN.out (by omega) (by simp) ?_
  intro v' w2 hown hgr
  have hb2 : Below w.heap.size w w2 := hb1.grown hgr (by simp) (fun k hk => by simp [Value.ownBlock] at hk; omega)
  have hown' : w2.ownsRow w.heap.size 3 1 v' (i :: p).length ((i :: p).map (Value.int .i64)) := by
    rw [show (i :: p).length = 1 + p.length from by simp; omega]
    exact hown
  have hne : v' ≠ .slice none 0 0 := fun e => by
    rcases hown'.2 with ⟨_, h0⟩ | ⟨g, cap, cur, h1, _⟩
    · simp at h0
    · rw [e] at h1; cases h1
  have HP := Lib.hid (posV_of_owns hown' hne)
  have HB := Lib.hid hb2
  clear hown hown' hgr hb1 hb2 hne
  go_wp2
  go_ret
  exact ⟨_, rfl, HP.out, HB.out⟩

end Go.Proofs.Ytdigccbffphilaa
