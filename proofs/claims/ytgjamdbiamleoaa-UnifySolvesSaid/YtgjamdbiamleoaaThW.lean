/- What Then answers, in plain words: errors, members. -/
import Derived.Test.YtgjamdbiamleoaaBoth
import Derived.Test.YtgjamdbiamleoaaRCk
import Derived.Test.YtgjamdbiamleoaaSOf
namespace Go.Proofs.Ytgjamdbiamleoaa
set_option linter.unusedVariables false
set_option linter.unusedSimpArgs false
open Go.RowKit

/-- The error of the first term of a list of bindings that is not valid. -/
def errL : Sb → Int
  | [] => 0
  | (_, t) :: s => if t.check = 0 then errL s else t.check
theorem errL_then {s u : Sb} : ∀ (L : List Int), (∀ z ∈ L, (thenT s u z).head = -1 - z → (thenT s u z).check = 0) → errL (thenL s u L) = thenE s u L := by
  intro L
  induction L with
  | nil => intros; rfl
  | cons z L ih =>
    intro h
    have ih := ih (fun y hy => h y (by simp [hy]))
    rw [thenL, thenE]
    split
    · rename_i hz
      rw [if_pos (h z (by simp) hz), ih]
    · rw [errL, ih]
theorem thenT_var {s u : Sb} (hs : rightS 0 s = true) (hu : rightS 0 u = true) {z : Int} (h0 : 0 ≤ z) (h1 : z ≤ 255) (h : (thenT s u z).head = -1 - z) : (thenT s u z).check = 0 := by
  obtain ⟨hg, _⟩ := ofS_good hs h0 h1
  unfold thenT at h ⊢
  by_cases q : (ofS s z).head < 0
  · have ha := good_head hg
    simp only [okB, if_pos q, Bool.and_eq_true, decide_eq_true_iff] at ha
    rw [T.sub_neg q] at h ⊢
    obtain ⟨hg2, _⟩ := ofS_good hu (z := -1 - (ofS s z).head) (by omega) ha.2
    have hl := good_leaf hg2 (by omega)
    generalize ofS u (-1 - (ofS s z).head) = x at *
    rw [show x = vt z from by rw [← T.eta x, hl, h]; rfl]
    exact check_vt h0 h1
  · rw [T.sub_pos q] at h
    exact absurd h (by rw [T.head_node]; omega)
theorem errL_step {s : Sb} {k : Nat} {x : Int} {t : T} (h : s[k]? = some (x, t)) : errL (s.drop k) = if t.check = 0 then errL (s.drop (k + 1)) else t.check := by
  obtain ⟨hk, e⟩ := List.getElem?_eq_some_iff.1 h
  rw [List.drop_eq_getElem_cons hk, e, errL]
theorem thenL_mem {s u : Sb} : ∀ {L : List Int} {x : Int × T}, x ∈ thenL s u L → x.2 = thenT s u x.1 ∧ x.1 ∈ L := by
  intro L
  induction L with
  | nil => intro x h; simp [thenL] at h
  | cons z L ih =>
    intro x h
    rw [thenL] at h
    split at h
    · have := ih h; exact ⟨this.1, by simp [this.2]⟩
    · rcases List.mem_cons.1 h with rfl | h
      · exact ⟨rfl, by simp⟩
      · have := ih h; exact ⟨this.1, by simp [this.2]⟩

end Go.Proofs.Ytgjamdbiamleoaa
