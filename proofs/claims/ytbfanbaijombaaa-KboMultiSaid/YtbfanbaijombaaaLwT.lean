/- A nil row of terms, handed to a law, has no capacity. -/
import Derived.Test.YtbfanbaijombaaaQ1a
namespace Go.Proofs.Ytbfanbaijombaaa
open Go.ChangeShapes Go.WideShapes Go.ChangeAt Go.RowKit

theorem ts_nil {H : Type} {enc : TypeId × Value → H} {w : World} {sp : Nat → Bool} {hd : Bool} {v : Value} {d : DataW H} {p : List MemPlace} (h : DataW.Trod enc Try.prog w 0 sp hd 23 v d p) {a : Option Addr} {l c : Nat} (e : v = .slice a l c) : a = none → c = 0 := by
  subst e
  rintro rfl
  obtain ⟨n, hn⟩ := h
  rcases DataW.trod_slice Try.underlying23 hn with ⟨e, _⟩ | ⟨a, len, cap, elems, rest, m, hm, e, _⟩
  · simp [Value.cells] at e; exact e.2
  · simp [Value.cells] at e

end Go.Proofs.Ytbfanbaijombaaa
