/- The memory of All: what its closure may change. -/
import Derived.Test.YtdigccbffphilaaConc
import Derived.Test.YtdigccbffphilaaRCopy
namespace Go.Proofs.Ytdigccbffphilaa
set_option linter.unusedVariables false
set_option linter.unusedSimpArgs false
open Go.RowKit

/-- From W to W': nothing below lo has changed, and above it only the variable Ba and blocks of slices of numbers. -/
structure ChgA (lo Ba : Nat) (W W' : World) : Prop where
  below : Below lo W W'
  rest : ∀ q, q < W.heap.size → q ≠ Ba → (∀ cs fz, W.heap[q]? ≠ some (.cells cs 25 fz)) → W'.heap[q]? = W.heap[q]?

theorem ChgA.refl (lo Ba : Nat) (W : World) : ChgA lo Ba W W := ⟨Below.refl _ _, fun _ _ _ _ => rfl⟩
theorem ChgA.trans {lo Ba : Nat} {A B C : World} (h : ChgA lo Ba A B) (k : ChgA lo Ba B C) : ChgA lo Ba A C :=
  ⟨h.below.trans k.below, fun q h1 h2 h3 => by
    have h4 := h.rest q h1 h2 h3
    exact (k.rest q (Nat.lt_of_lt_of_le h1 h.below.size) h2 (fun cs fz e => h3 cs fz (h4.symm.trans e))).trans h4⟩
theorem ChgA.of_below {lo Ba : Nat} {A B : World} (h : Below A.heap.size A B) (hl : lo ≤ A.heap.size) : ChgA lo Ba A B := ⟨h.mono hl, fun q h1 _ _ => h.block q h1⟩
theorem ChgA.alloc {lo Ba : Nat} {A B : World} (h : ChgA lo Ba A B) (hl : lo ≤ A.heap.size) (ob : Obj) : ChgA lo Ba A (B.alloc ob) :=
  h.trans (ChgA.of_below ((Below.refl _ B).alloc (Nat.le_refl _) ob) (Nat.le_trans hl h.below.size))
theorem ChgA.typed {lo Ba : Nat} {A B : World} (h : ChgA lo Ba A B) {q : Nat} {cs : Array Value} {e : TypeId} {fz : Nat × Nat} (hq : A.heap[q]? = some (.cells cs e fz)) (hne : q ≠ Ba) (he : e ≠ 25) : B.heap[q]? = A.heap[q]? :=
  h.rest q (Array.getElem?_eq_some_iff.1 hq).1 hne (fun cs' fz' h' => by rw [hq] at h'; simp at h'; exact he h'.2.1)

theorem PosV.chg {lo l Ba : Nat} {W W' : World} {p : List Int} {x : Value} (h : PosV l W p x) (hc : ChgA lo Ba W W') (hb : ∀ cs fz, W.heap[Ba]? ≠ some (.cells cs 3 fz)) : PosV l W' p x := by
  obtain ⟨g, cap, cur, h1, h2, h3, h4, h5, h6⟩ := h
  have hg := hc.typed h3 (fun e => hb cur (0, 0) (e ▸ h3)) (by decide)
  exact ⟨g, cap, cur, h1, h2, hg.trans h3, h4, h5, fun j z hz => (World.cell?_of_block (a := ⟨g, j, none⟩) hg).trans (h6 j z hz)⟩
theorem PosV.mono {l l' : Nat} {W : World} {p : List Int} {x : Value} (h : PosV l W p x) (hl : l' ≤ l) : PosV l' W p x := by
  obtain ⟨g, cap, cur, h1, h2, h3⟩ := h; exact ⟨g, cap, cur, h1, by omega, h3⟩

/-- Positions, one behind the other. -/
def PosVs (lo : Nat) (W : World) : List (List Int) → List Value → Prop
  | [], [] => True
  | p :: ps, x :: xs => PosV lo W p x ∧ PosVs lo W ps xs
  | _, _ => False
theorem PosVs.chg {lo l Ba : Nat} {W W' : World} (hc : ChgA lo Ba W W') (hb : ∀ cs fz, W.heap[Ba]? ≠ some (.cells cs 3 fz)) : ∀ {ps : List (List Int)} {xs : List Value}, PosVs l W ps xs → PosVs l W' ps xs
  | [], [], _ => trivial
  | _ :: _, _ :: _, ⟨h1, h2⟩ => ⟨h1.chg hc hb, PosVs.chg hc hb h2⟩
  | [], _ :: _, h => h.elim
  | _ :: _, [], h => h.elim
theorem PosVs.snoc {l : Nat} {W : World} {p : List Int} {x : Value} (h : PosV l W p x) : ∀ {ps : List (List Int)} {xs : List Value}, PosVs l W ps xs → PosVs l W (ps ++ [p]) (xs ++ [x])
  | [], [], _ => ⟨h, trivial⟩
  | _ :: _, _ :: _, ⟨h1, h2⟩ => ⟨h1, PosVs.snoc h h2⟩
  | [], _ :: _, h => h.elim
  | _ :: _, [], h => h.elim
theorem PosVs.length {l : Nat} {W : World} : ∀ {ps : List (List Int)} {xs : List Value}, PosVs l W ps xs → xs.length = ps.length
  | [], [], _ => rfl
  | _ :: _, _ :: _, ⟨_, h2⟩ => by simp [h2.length]
  | [], _ :: _, h => h.elim
  | _ :: _, [], h => h.elim
theorem PosVs.get {l : Nat} {W : World} : ∀ {ps : List (List Int)} {xs : List Value} {j : Nat} {p : List Int}, PosVs l W ps xs → ps[j]? = some p → ∃ x, xs[j]? = some x ∧ PosV l W p x
  | [], [], j, p, _, hj => by simp at hj
  | q :: _, y :: _, 0, p, ⟨h1, _⟩, hj => by simp at hj; subst hj; exact ⟨y, rfl, h1⟩
  | _ :: _, _ :: _, j + 1, p, ⟨_, h2⟩, hj => by
    obtain ⟨x, hx, hp⟩ := PosVs.get h2 (j := j) (p := p) (by simpa using hj)
    exact ⟨x, by simpa using hx, hp⟩
  | [], _ :: _, _, _, h, _ => h.elim
  | _ :: _, [], _, _, h, _ => h.elim

/-- The list so far. -/
structure Acc (lo Ba : Nat) (W : World) (acc : List (List Int)) : Prop where
  lt : Ba < W.heap.size
  low : lo ≤ Ba
  ex : ∃ v xs, W.heap[Ba]? = some (.cells #[v] 36 (0, 0)) ∧ W.ownsRow lo 25 1 v acc.length xs ∧ PosVs lo W acc xs

theorem Acc.notInt {lo Ba : Nat} {W : World} {acc : List (List Int)} (h : Acc lo Ba W acc) : ∀ cs fz, W.heap[Ba]? ≠ some (.cells cs 3 fz) := by
  obtain ⟨v, xs, h1, _⟩ := h.ex
  intro cs fz e
  rw [h1] at e
  simp at e
theorem Acc.below {lo Ba : Nat} {W W' : World} {acc : List (List Int)} (h : Acc lo Ba W acc) (hb : Below W.heap.size W W') : Acc lo Ba W' acc := by
  obtain ⟨h1, h2, v, xs, h3, h4, h5⟩ := h
  have hlo : lo ≤ W.heap.size := by omega
  refine ⟨Nat.lt_of_lt_of_le h1 hb.size, h2, v, xs, (hb.block _ h1).trans h3, ?_, PosVs.chg (ChgA.of_below (lo := lo) (Ba := Ba) hb hlo) ?_ h5⟩
  · exact h4.kept (row := none) ⟨hb.os, hb.tape, hb.output, hb.size, fun k hk _ => hb.block k hk⟩ (by cases hv : v.ownBlock <;> simp)
  · intro cs fz e; rw [h3] at e; simp at e

/-- A row of one's own of slices of numbers is no block of another type. -/
theorem own35 {W : World} {base n q : Nat} {v : Value} {xs : List Value} (ho : W.ownsRow base 25 1 v n xs) (h : v.ownBlock = some q) : ∃ cs fz, W.heap[q]? = some (.cells cs 25 fz) := by
  rcases ho.2 with ⟨rfl, _⟩ | ⟨g, cap, cur, rfl, _, hh, _⟩
  · cases h
  · simp [Value.ownBlock] at h; subst h; exact ⟨cur, _, hh⟩

theorem acc_push {lo Ba : Nat} {w w2 w3 : World} {acc : List (List Int)} {v v' pv : Value} {xs : List Value} {pre : List Int} (hBa : Ba < w.heap.size) (hlo : lo ≤ Ba) (hall : w.heap[Ba]? = some (.cells #[v] 36 (0, 0))) (hown : w.ownsRow lo 25 1 v acc.length xs) (hps : PosVs lo w acc xs)
    (hb2 : Below w.heap.size w w2) (hpv : PosV lo w pre pv) (hown3 : w3.ownsRow lo 25 1 v' (acc.length + 1) (xs ++ [pv])) (hgr : w2.grownBy w3 v.ownBlock) :
    Acc lo Ba (w3.setCell ⟨Ba, 0, none⟩ v') (acc ++ [pre]) ∧ ChgA lo Ba w (w3.setCell ⟨Ba, 0, none⟩ v') := by
  have hvne : v.ownBlock ≠ some Ba := fun e => by obtain ⟨cs, fz, h⟩ := own35 hown e; rw [hall] at h; simp at h
  have hb := hb2.size
  have h3 : w3.heap[Ba]? = some (.cells #[v] 36 (0, 0)) := ((hgr.block Ba (by omega) (fun e => hvne e.symm)).trans (hb2.block _ hBa)).trans hall
  have hvne' : v'.ownBlock ≠ some Ba := fun e => by obtain ⟨cs, fz, h⟩ := own35 hown3 e; rw [h3] at h; simp at h
  have hchg : ChgA lo Ba w (w3.setCell ⟨Ba, 0, none⟩ v') := by
    refine ⟨((hb2.mono (by omega)).grown hgr (by omega) (fun k hk => (hown.lt k hk).1)).setCell (p := ⟨Ba, 0, none⟩) hlo _, fun q h1 h2 h3 => ?_⟩
    rw [Below.heap_setCell _ _ _ _ h2, hgr.block q (by omega) (fun e => by obtain ⟨cs, fz, h⟩ := own35 hown e.symm; exact h3 cs fz h), hb2.block q h1]
  have hnI : ∀ cs fz, w.heap[Ba]? ≠ some (.cells cs 3 fz) := fun cs fz e => by rw [hall] at e; simp at e
  have hs3 := hgr.size
  refine ⟨⟨by simp; omega, hlo, v', xs ++ [pv], by rw [heap_setCell_same h3]; rfl, ?_, PosVs.snoc (hpv.chg hchg hnI) (PosVs.chg hchg hnI hps)⟩, hchg⟩
  rw [List.length_append]
  exact hown3.kept (row := some Ba) ⟨rfl, rfl, rfl, by simp, fun k hk hn => Below.heap_setCell _ _ _ _ (fun e => hn (by rw [e]))⟩ (.inr hvne')

mutual
def T.allp (pre : List Int) : T → List (List Int)
  | .node _ ts => pre :: T.allps pre 0 ts
def T.allps (pre : List Int) (i : Nat) : List T → List (List Int)
  | [] => []
  | t :: ts => T.allp (pre ++ [(i : Int)]) t ++ T.allps pre (i + 1) ts
end
theorem T.allp_eq (pre : List Int) (t : T) : T.allp pre t = pre :: T.allps pre 0 t.args := by cases t; simp [T.allp, T.args]
theorem T.allps_take (pre : List Int) : ∀ (ts : List T) (i k : Nat) (t : T), ts[k]? = some t → T.allps pre i (ts.take (k + 1)) = T.allps pre i (ts.take k) ++ T.allp (pre ++ [((i + k : Nat) : Int)]) t
  | [], i, k, t, h => by simp at h
  | s :: ts, i, 0, t, h => by simp at h; subst h; simp [T.allps]
  | s :: ts, i, k + 1, t, h => by
    have := T.allps_take pre ts (i + 1) k t (by simpa using h)
    simp only [List.take_succ_cons, T.allps, this, List.append_assoc]
    rw [show i + 1 + k = i + (k + 1) from by omega]
mutual
theorem T.allp_length (pre : List Int) : (t : T) → (T.allp pre t).length = t.size
  | .node _ ts => by simp [T.allp, T.size, T.allps_length pre 0 ts]; omega
theorem T.allps_length (pre : List Int) (i : Nat) : (ts : List T) → (T.allps pre i ts).length = T.sizes ts
  | [] => by simp [T.allps, T.sizes]
  | t :: ts => by simp [T.allps, T.sizes, T.allp_length _ t, T.allps_length pre (i + 1) ts]
end
mutual
theorem T.allp_all (pre : List Int) : (t : T) → T.allp pre t = t.all.map (fun p => pre ++ p)
  | .node _ ts => by simp [T.allp, T.all, T.allps_alls pre 0 ts]
theorem T.allps_alls (pre : List Int) (i : Nat) : (ts : List T) → T.allps pre i ts = (T.alls i ts).map (fun p => pre ++ p)
  | [] => by simp [T.allps, T.alls]
  | t :: ts => by simp [T.allps, T.alls, behind, T.allp_all _ t, T.allps_alls pre (i + 1) ts]
end

end Go.Proofs.Ytdigccbffphilaa
