/- Rows of terms in blocks of their own. -/
import Derived.Test.YtgjamdbiamleoaaLeaf
import Derived.Test.YtgjamdbiamleoaaSub
import Derived.Lib.SliceRun
namespace Go.Proofs.Ytgjamdbiamleoaa
set_option linter.unusedVariables false
set_option linter.unusedSimpArgs false
open Go.RowKit

theorem infoTerm : (Try.prog.info? 25).map (fun i => (i.zero, i.size, i.bytes)) = some (some (.agg #[.int .i64 0, .slice none 0 0]), 2, 32) := by kernel_rfl

/-- A slice of terms in a block of its own, not below lo, that begins with the slice. -/
def NewRow (n₀ lo : Nat) (w : World) (ts : List T) (a : Option Addr) (c : Nat) : Prop :=
  ts.length ≤ c ∧ c ≤ maxLen ∧ (ts = [] ∨ ∃ g cur, a = some ⟨g, 0, none⟩ ∧ lo ≤ g ∧ w.heap[g]? = some (.cells cur 25 (0, 0)) ∧ cur.size = c * 2 ∧ IsRow n₀ w ts g 0)

theorem row_cells {n₀ : Nat} {w : World} : ∀ (ts : List T) (b o : Nat), IsRow n₀ w ts b o → ∃ news : List Value, news.length = ts.length * 2 ∧ (∀ j u, news[j]? = some u → w.cell? ⟨b, o + j, none⟩ = some u) ∧ (∀ u ∈ news, u.oneCell' = true) ∧
    ∀ (W : World) (g q : Nat), Below n₀ w W → (∀ j u, news[j]? = some u → W.cell? ⟨g, q + j, none⟩ = some u) → IsRow n₀ W ts g q := by
  intro ts
  induction ts with
  | nil => intro b o _; exact ⟨[], rfl, by simp, by simp, fun _ _ _ _ _ => trivial⟩
  | cons t ts ih =>
    intro b o h
    simp only [IsRow] at h
    obtain ⟨ht, hr⟩ := h
    obtain ⟨news, hl, hc, h1, hW⟩ := ih b (o + 2) hr
    obtain ⟨wf, p1, a, c, p2, hA⟩ := isT_iff.1 ht
    refine ⟨.int .i64 t.head :: .slice a t.args.length c :: news, by simp [hl]; omega, ?_, ?_, ?_⟩
    · intro j u hj
      match j, hj with
      | 0, hj => simp at hj; subst hj; exact p1
      | 1, hj => simp at hj; subst hj; exact p2
      | j + 2, hj => rw [show o + (j + 2) = o + 2 + j from by omega]; exact hc j u (by simpa using hj)
    · intro u hu
      simp at hu
      rcases hu with rfl | rfl | hu
      · rfl
      · rfl
      · exact h1 u hu
    · intro W g q hB hcell
      simp only [IsRow]
      refine ⟨isT_iff.2 ⟨wf, by simpa using hcell 0 _ rfl, a, c, hcell 1 _ rfl, hA.below hB⟩, hW W g (q + 2) hB (fun j u hj => ?_)⟩
      rw [show q + 2 + j = q + (j + 2) from by omega]
      exact hcell (j + 2) u (by simpa using hj)

def ClonePost (n₀ : Nat) (ts : List T) (w : World) (e : Ending) (w' : World) : Prop := ∃ a2 c2, e = .returned (.slice a2 ts.length c2) ∧ NewRow n₀ w.heap.size w' ts a2 c2 ∧ Below w.heap.size w w'

theorem newRow_of_owns {n₀ base : Nat} {w w' : World} {v : Value} {ts : List T} {news : List Value} (hb : Below n₀ w w') (hown : w'.ownsRow base 25 2 v ts.length news)
    (hW : ∀ (W : World) (g q : Nat), Below n₀ w W → (∀ j u, news[j]? = some u → W.cell? ⟨g, q + j, none⟩ = some u) → IsRow n₀ W ts g q) : ∃ a2 c2, v = .slice a2 ts.length c2 ∧ NewRow n₀ base w' ts a2 c2 := by
  have hcells := fun g hg => hown.cells (g := g) hg
  rcases hown.2 with ⟨rfl, h0⟩ | ⟨g, cap, cur, rfl, hg, hh, hn, hc, hs, _⟩
  · exact ⟨none, 0, by rw [h0], by omega, by simp [maxLen], .inl (List.eq_nil_of_length_eq_zero h0)⟩
  · refine ⟨_, cap, rfl, hn, hc, .inr ⟨g, cur, rfl, hg, hh, hs, hW w' g 0 hb (fun j u hj => ?_)⟩⟩
    have := hcells g rfl j u hj
    rw [show ((⟨g, 0, none⟩ : Addr).add j) = ⟨g, 0 + j, none⟩ from by unfold Addr.add; split <;> simp_all] at this
    exact this

end Go.Proofs.Ytgjamdbiamleoaa
