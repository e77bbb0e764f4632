/- Rows of bindings of one's own: their cells, and what they become when one is appended. -/
import Derived.Test.YtcbjnfdhghhgeaaQ1c
import Derived.Test.YtcbjnfdhghhgeaaRCp0
namespace Go.Proofs.Ytcbjnfdhghhgeaa
set_option linter.unusedVariables false
set_option linter.unusedSimpArgs false
open Go.RowKit

theorem infoBind : (Try.prog.info? 43).map (fun i => (i.zero, i.size, i.bytes)) = some (some (.agg #[.int .i64 0, .int .i64 0, .slice none 0 0]), 3, 40) := by kernel_rfl

/-- The cells xs are those of the bindings s, one behind the other. -/
def BVals (ok : Nat → Prop) (w : World) : Sb → List Value → Prop
  | [], [] => True
  | (x, t) :: s, v :: h :: l :: xs => (Lit.int .i64 x).wf = true ∧ v = .int .i64 x ∧ (Lit.int .i64 t.head).wf = true ∧ h = .int .i64 t.head ∧ (∃ a c, l = .slice a t.args.length c ∧ IsArgsp ok w t.args a c) ∧ BVals ok w s xs
  | _, _ => False
theorem BVals.keep {ok ok' : Nat → Prop} {w w' : World} (h : ∀ b, ok b → w'.heap[b]? = w.heap[b]?) (hm : ∀ b, ok b → ok' b) : ∀ {s : Sb} {xs : List Value}, BVals ok w s xs → BVals ok' w' s xs
  | [], [], _ => trivial
  | (_, _) :: _, _ :: _ :: _ :: _, ⟨h1, h2, h3, h4, ⟨a, c, h5, h6⟩, h7⟩ => ⟨h1, h2, h3, h4, ⟨a, c, h5, h6.keep h hm⟩, BVals.keep h hm h7⟩
  | [], _ :: _, h => h.elim
  | (_, _) :: _, [], h => h.elim
  | (_, _) :: _, [_], h => h.elim
  | (_, _) :: _, [_, _], h => h.elim
theorem BVals.snoc {ok : Nat → Prop} {w : World} {x : Int} {t : T} {a : Option Addr} {c : Nat} (h0 : (Lit.int .i64 x).wf = true) (h1 : (Lit.int .i64 t.head).wf = true) (h4 : IsArgsp ok w t.args a c) : ∀ {s : Sb} {xs : List Value}, BVals ok w s xs → BVals ok w (s ++ [(x, t)]) (xs ++ [.int .i64 x, .int .i64 t.head, .slice a t.args.length c])
  | [], [], _ => ⟨h0, rfl, h1, rfl, ⟨a, c, rfl, h4⟩, trivial⟩
  | (_, _) :: _, _ :: _ :: _ :: _, ⟨p1, p2, p3, p4, p5, p6⟩ => ⟨p1, p2, p3, p4, p5, BVals.snoc h0 h1 h4 p6⟩
  | [], _ :: _, h => h.elim
  | (_, _) :: _, [], h => h.elim
  | (_, _) :: _, [_], h => h.elim
  | (_, _) :: _, [_, _], h => h.elim
theorem BVals.length {ok : Nat → Prop} {w : World} : ∀ {s : Sb} {xs : List Value}, BVals ok w s xs → xs.length = s.length * 3
  | [], [], _ => rfl
  | (_, _) :: _, _ :: _ :: _ :: _, ⟨_, _, _, _, _, p⟩ => by simp [p.length]; omega
  | [], _ :: _, h => h.elim
  | (_, _) :: _, [], h => h.elim
  | (_, _) :: _, [_], h => h.elim
  | (_, _) :: _, [_, _], h => h.elim
theorem BVals.get {ok : Nat → Prop} {w : World} : ∀ {s : Sb} {xs : List Value} {j : Nat} {x : Int} {t : T}, BVals ok w s xs → s[j]? = some (x, t) →
    (Lit.int .i64 x).wf = true ∧ (Lit.int .i64 t.head).wf = true ∧ xs[j * 3]? = some (.int .i64 x) ∧ xs[j * 3 + 1]? = some (.int .i64 t.head) ∧ ∃ a c, xs[j * 3 + 2]? = some (.slice a t.args.length c) ∧ IsArgsp ok w t.args a c
  | [], [], j, x, t, _, hj => by simp at hj
  | (y, u) :: s, v :: h :: l :: xs, 0, x, t, ⟨h1, h2, h3, h4, ⟨a, c, h5, h6⟩, h7⟩, hj => by
    simp at hj
    obtain ⟨rfl, rfl⟩ := hj
    subst h2 h4 h5
    exact ⟨h1, h3, rfl, rfl, a, c, rfl, h6⟩
  | (y, u) :: s, v :: h :: l :: xs, j + 1, x, t, ⟨h1, h2, h3, h4, _, h7⟩, hj => by
    have := BVals.get h7 (j := j) (x := x) (t := t) (by simpa using hj)
    rw [show (j + 1) * 3 = j * 3 + 3 from by omega]
    exact this
  | [], _ :: _, _, _, _, h, _ => h.elim
  | (_, _) :: _, [], _, _, _, h, _ => h.elim
  | (_, _) :: _, [_], _, _, _, h, _ => h.elim
  | (_, _) :: _, [_, _], _, _, _, h, _ => h.elim

/-- A row of one's own, whose cells are bindings, is a list of bindings. -/
theorem isBs_of_owns {ok : Nat → Prop} {w : World} {base n : Nat} {v : Value} {s : Sb} {xs : List Value} (hown : w.ownsRow base 43 3 v s.length xs) (hr : BVals ok w s xs) (hm : ∀ b, ok b → b < n) (hg : ∀ g, v.ownBlock = some g → g < n) : ∃ a c, v = .slice a s.length c ∧ IsBs n w s a c := by
  have hcells := fun g hg => hown.cells (g := g) hg
  rcases hown.2 with ⟨rfl, h0⟩ | ⟨g, cap, cur, rfl, hb, hh, hn, hc, hs, _⟩
  · exact ⟨none, 0, by rw [h0], by omega, by simp [maxLen], .inl (List.eq_nil_of_length_eq_zero h0)⟩
  · refine ⟨_, cap, rfl, hn, hc, .inr ⟨g, 0, rfl, hg g rfl, fun j x hx => ?_⟩⟩
    obtain ⟨x, t⟩ := x
    obtain ⟨h1, h2, h3, h4, a, c, h5, h6⟩ := hr.get hx
    have e1 := hcells g rfl _ _ h3
    have e2 := hcells g rfl _ _ h4
    have e3 := hcells g rfl _ _ h5
    rw [addr_add] at e1 e2 e3
    exact ⟨h1, e1, isT_iff.2 ⟨h2, by rw [show 0 + j * 3 + 1 = 0 + (j * 3 + 1) from by omega]; exact e2, a, c, by rw [show 0 + j * 3 + 1 + 1 = 0 + (j * 3 + 2) from by omega]; exact e3, h6.toArgs hm⟩⟩

end Go.Proofs.Ytcbjnfdhghhgeaa
