/- Reading literals out of memory. -/
import Derived.Test.YtleohdddaadbeaaGreatQBo
import Derived.Test.YtleohdddaadbeaaGreatQDa
namespace Go.Proofs.YtleohdddaadbeaaGreat
set_option linter.unusedVariables false
set_option linter.unusedSimpArgs false
set_option maxRecDepth 100000
open Go.ChangeShapes Go.WideShapes Go.ChangeAt Go.RowKit Go.Joins

theorem cellsLit : Tryz.prog.cellsOf 27 = 5 := by kernel_rfl

section
variable {H : Type} {enc : TypeId × Value → H} {w : World} {sp : Nat → Bool} {hd : Bool}

theorem trod_lit {n : Nat} {cs : List Value} {x : DataW H × List MemPlace} (h : DataW.trod enc Tryz.prog w 0 sp hd n 27 cs = some x) :
    ∃ y : LV, cs = [.bool y.n, .int .i64 y.l.head, .slice y.pa y.l.args.length y.ca, .int .i64 y.r.head, .slice y.pb y.r.args.length y.cb] ∧ IsLv w.heap.size w y := by
  obtain ⟨xs, m, hm, _, hl, hxs, hf⟩ := DataW.trod_struct Tryz.underlying27 h
  rw [cellsLit] at hl
  match cs, hl with
  | [c0, c1, c2, c3, c4], _ =>
    match xs, hxs with
    | [y0, y1, y2], _ =>
      have h0 := hf 0 _ rfl
      have h1 := hf 1 _ rfl
      have h2 := hf 2 _ rfl
      simp [cellsBool, cellsTerm] at h0 h1 h2
      obtain ⟨k, e0, _⟩ := DataW.trod_bool Tryz.underlying4 h0
      obtain ⟨t, a, c, e1, wf1, hA⟩ := (trod_terms _).1 h1
      obtain ⟨u, b, d, e2, wf2, hB⟩ := (trod_terms _).1 h2
      simp at e0 e1 e2
      obtain ⟨rfl, rfl⟩ := e1
      obtain ⟨rfl, rfl⟩ := e2
      subst e0
      exact ⟨⟨k, t, u, a, c, b, d⟩, rfl, wf1, wf2, hA, hB⟩

/-- An argument of type Lit. -/
theorem open_lit {r : Reach} {b0 : Nat} {v : Value} {d : DataW H} {p : List MemPlace} (hv : Value.okWide Tryz.prog w r b0 27 v) (h : DataW.Trod enc Tryz.prog w 0 sp hd 27 v d p) :
    ∃ y : LV, v = y.v ∧ IsLv w.heap.size w y := by
  obtain ⟨cs, rfl, _⟩ := okWide_struct Tryz.underlying27 hv
  obtain ⟨n, hn⟩ := h
  obtain ⟨y, e, hy⟩ := trod_lit hn
  refine ⟨y, ?_, hy⟩
  obtain ⟨l⟩ := cs
  simp only [Value.cells] at e
  simp only [LV.v]
  rw [show l = _ from e]
end

end Go.Proofs.YtleohdddaadbeaaGreat
