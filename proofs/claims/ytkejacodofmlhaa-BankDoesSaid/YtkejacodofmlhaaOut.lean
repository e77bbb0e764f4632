/- Out: a term that is built in a block of its own, argument by argument: a step. -/
import Derived.Test.YtkejacodofmlhaaRCp0
namespace Go.Proofs.Ytkejacodofmlhaa
set_option linter.unusedVariables false
set_option linter.unusedSimpArgs false
open Go.RowKit

def okO (q : Nat) (v : Value) (wr : World) (b : Nat) : Prop := q ≤ b ∧ b < wr.heap.size ∧ v.ownBlock ≠ some b
/-- Block q holds a term with the first k of the arguments. -/
def OutI (q b0 : Nat) (h : Int) (ts : List T) (w3 : World) (i : Value) (wr : World) : Prop :=
  ∃ (k : Nat) (v : Value) (xs : List Value), k ≤ ts.length ∧ i = .int .i64 k ∧ wr.heap[q]? = some (.cells #[.int .i64 h, v] 24 (0, 0)) ∧
    wr.ownsRow b0 24 2 v k xs ∧ RowVals (okO b0 v wr) wr (ts.take k) xs ∧ Below q w3 wr ∧ ∀ j, j < b0 → j ≠ q → wr.heap[j]? = w3.heap[j]?

theorem out_step {s : T} {h : Int} {ts : List T} {q b0 : Nat} {w3 wr w4 w5 : World} {k : Nat} {v : Value} {xs : List Value} {a2 : Option Addr} {c2 g5 cap5 : Nat} {ob : Obj} (hk : k < ts.length) (hs : ts[k]? = some s) (hsw : (Lit.int .i64 s.head).wf = true)
    (hout : wr.heap[q]? = some (.cells #[.int .i64 h, v] 24 (0, 0))) (hown : wr.ownsRow b0 24 2 v k xs) (hrv : RowVals (okO b0 v wr) wr (ts.take k) xs)
    (hB : Below q w3 wr) (hK : ∀ j, j < b0 → j ≠ q → wr.heap[j]? = w3.heap[j]?) (hq : q < b0) (hz : b0 ≤ wr.heap.size) (hI4 : IsArgsp (fun b => wr.heap.size ≤ b ∧ b < w4.heap.size) w4 s.args a2 c2) (hB4 : Below wr.heap.size wr w4)
    (hown5 : w5.ownsRow b0 24 2 (.slice (some ⟨g5, 0, none⟩) (k + 1) cap5) (k + 1) (xs ++ [.int .i64 s.head, .slice a2 s.args.length c2])) (hgrow5 : (w4.alloc ob).grownBy w5 v.ownBlock)
    (hat5 : v.ownBlock = some g5 ∨ g5 = w4.heap.size + 1) :
    OutI q b0 h ts w3 (.int .i64 ((k + 1 : Nat) : Int)) (w5.setCell ⟨q, 1, none⟩ (.slice (some ⟨g5, 0, none⟩) (k + 1) cap5)) := by
  have hz4 : wr.heap.size ≤ w4.heap.size := hB4.size
  have hz5 : w4.heap.size + 1 ≤ w5.heap.size := by have := hgrow5.size; simpa using this
  have hlt := hown.lt
  have hbk : ∀ b, b < w4.heap.size → v.ownBlock ≠ some b → b ≠ q → (w5.setCell ⟨q, 1, none⟩ (.slice (some ⟨g5, 0, none⟩) (k + 1) cap5)).heap[b]? = w4.heap[b]? := fun b h1 h2 h3 =>
    (Below.heap_setCell _ _ _ _ h3).trans ((hgrow5.block b (by simp; omega) (fun e => h2 e.symm)).trans (Below.heap_alloc _ _ _ h1))
  have hg5 : ∀ b, b < w4.heap.size → v.ownBlock ≠ some b → g5 ≠ b := fun b h1 h2 e => by
    subst e
    rcases hat5 with h | h
    · exact h2 h
    · omega
  refine ⟨k + 1, _, _, by omega, rfl, ?_, ownsRow_setCell_below hown5 (by simpa using hq) _, ?_, ?_, fun j hj hne => ?_⟩
  · have h5 : w5.heap[q]? = some (.cells #[.int .i64 h, v] 24 (0, 0)) :=
      ((hgrow5.block _ (by simp; omega) (fun e => by have := hlt _ e.symm; omega)).trans ((Below.heap_alloc _ _ _ (by omega)).trans (hB4.block _ (by omega)))).trans hout
    rw [heap_setCell_same h5]
    rfl
  · rw [List.take_succ_eq_append_getElem hk, show ts[k] = s from by have := List.getElem?_eq_getElem hk; rw [hs] at this; exact (Option.some.inj this).symm]
    refine RowVals.snoc hsw (hI4.keep (fun b hb => hbk b hb.2 (fun e => by have := hlt _ e; omega) (by omega)) (fun b hb => ⟨by omega, by show b < _; simp; omega, fun e => hg5 b hb.2 (fun e => by have := hlt _ e; omega) (by simpa [Value.ownBlock] using e)⟩))
      (hrv.keep (fun b hb => (hbk b (by have := hb.2.1; omega) hb.2.2 (by have := hb.1; omega)).trans (hB4.block b hb.2.1)) (fun b hb => ⟨hb.1, by show b < _; have := hb.2.1; simp; omega, fun e => hg5 b (by have := hb.2.1; omega) hb.2.2 (by simpa [Value.ownBlock] using e)⟩))
  · exact (hB.trans (((hB4.mono (by omega)).alloc (by omega) ob).grown hgrow5 (by simp; omega) (fun k hk => by have := hlt k hk; omega))).setCell (p := ⟨q, 1, none⟩) (by simp) _
  · exact (hbk j (by omega) (fun e => by have := hlt _ e; omega) hne).trans ((hB4.block j (by omega)).trans (hK j hj hne))

end Go.Proofs.Ytkejacodofmlhaa
