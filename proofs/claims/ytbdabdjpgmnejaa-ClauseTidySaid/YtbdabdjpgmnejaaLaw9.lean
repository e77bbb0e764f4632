/- Reading literals out of memory. -/
import Derived.Test.YtbdabdjpgmnejaaLaw7
import Derived.Test.YtbdabdjpgmnejaaQBc
namespace Go.Proofs.Ytbdabdjpgmnejaa
set_option linter.unusedVariables false
set_option linter.unusedSimpArgs false
set_option maxRecDepth 100000
open Go.ChangeShapes Go.WideShapes Go.ChangeAt Go.RowKit Go.Joins
theorem cellsLit : Try.prog.cellsOf 30 = 5 := by kernel_rfl
section
variable {H : Type} {enc : TypeId × Value → H} {w : World} {sp : Nat → Bool} {hd : Bool}
theorem trod_lit {n : Nat} {cs : List Value} {x : DataW H × List MemPlace} (h : DataW.trod enc Try.prog w 0 sp hd n 30 cs = some x) :
    ∃ y : LV, cs = [.bool y.n, .int .i64 y.l.head, .slice y.pa y.l.args.length y.ca, .int .i64 y.r.head, .slice y.pb y.r.args.length y.cb] ∧ IsLv w.heap.size w y := by
  obtain ⟨xs, m, hm, _, hl, hxs, hf⟩ := DataW.trod_struct Try.underlying30 h
  rw [cellsLit] at hl
  match cs, hl with
  | [c0, c1, c2, c3, c4], _ =>
    match xs, hxs with
    | [y0, y1, y2], _ =>
      have h0 := hf 0 _ rfl
      have h1 := hf 1 _ rfl
      have h2 := hf 2 _ rfl
      simp [cellsBool, cellsTerm] at h0 h1 h2
      obtain ⟨k, e0, _⟩ := DataW.trod_bool Try.underlying4 h0
      obtain ⟨t, a, c, e1, wf1, hA⟩ := (trod_terms _).1 h1
      obtain ⟨u, b, d, e2, wf2, hB⟩ := (trod_terms _).1 h2
      simp at e0 e1 e2
      obtain ⟨rfl, rfl⟩ := e1
      obtain ⟨rfl, rfl⟩ := e2
      subst e0
      exact ⟨⟨k, t, u, a, c, b, d⟩, rfl, wf1, wf2, hA, hB⟩
end
end Go.Proofs.Ytbdabdjpgmnejaa
