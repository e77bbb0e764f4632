/- Proved: for all arguments that can be read, LitOriented returns true, and the arguments read afterwards as before. No condition beyond the row's own. -/
import Derived.Test.YtleohdddaadbeaaLaw9
import Derived.Test.YtleohdddaadbeaaWLOi
namespace Go.Proofs.Ytleohdddaadbeaa
open Go.ChangeShapes Go.WideShapes Go.ChangeAt Go.RowKit

set_option maxRecDepth 100000 in
theorem litOriented_lifted (os : Os) (started : os.Started) (H : Type) (enc : TypeId × Value → H) :
    ReturnsInHanded {} Try.checked os 5 .any (Rows.litOrientedSpec.pre6 enc Try.prog Try.f5 Rows.litOrientedRow.domain false) (Rows.litOrientedSpec.post enc Try.prog Try.f5 false true false false) := by
  refine returnsInHanded_of_change (C := Try.checked) own started (by kernel_rfl) Try.func5
    (ChangeSpec.witness6 (enc := enc) (C := Try.checked) false ⟨#[], #[.slice none 0 0, .agg #[.bool false, .int .i64 0, .slice none 0 0, .int .i64 0, .slice none 0 0]], []⟩ 8 (by kernel_rfl) (by kernel_rfl) (by kernel_rfl) (by kernel_rfl)) ?_
  intro W base args ds gs before hval hW _ _
  have hW' := hW
  obtain ⟨p, q, hA0, hV, rfl, _, _⟩ := hW
  have hA : DataW.TrodAll enc Try.prog W 0 (fun _ => true) true Try.f5.params.toList args.toList ds p := hA0
  have hval' : ∀ (j : Nat) t v, Try.f5.params[j]? = some t → args[j]? = some v → Value.okWide Try.prog W .any base t v := hval
  rw [Try.params5] at hA hval'
  obtain ⟨v0, v1, d0, d1, p0, p1, rfl, rfl, rfl, h0, h1⟩ := trodAll_two hA
  obtain ⟨x0, a0, c0, rfl, m0⟩ := open_sg (hval' 0 _ v0 rfl rfl) h0
  obtain ⟨x1, rfl, m1⟩ := open_lit (hval' 1 _ v1 rfl rfl) h1
  refine (litOriented_walk x0 x1 a0 c0 W  m0 m1).mono fun e W' ⟨he, hb⟩ => ?_
  subst he
  exact ⟨_, rfl, post_law laid Try.underlying4 (by kernel_rfl) rfl (of_decide_eq_true (by kernel_rfl)) (fun gs hg => by subst hg; rfl) hW' hb⟩

theorem litOriented_holds : Rows.LitOrientedSaid :=
  OpenClaim.holds_of_wide 5 Try.f5 rfl rfl rfl rfl rfl rfl rfl ⟨rfl, rfl, rfl, rfl, rfl⟩ rfl rfl rfl rfl rfl (by kernel_rfl) Try.func5 (by kernel_rfl)
    (of_decide_eq_true (by kernel_rfl)) (by unfold Func.isWrapper; first | (rw [if_pos (by decide +kernel)]; kernel_rfl) | (rw [if_neg (by decide +kernel)]; exact ⟨rfl, rfl⟩))
    (fun os started H enc _ => litOriented_lifted os started H enc)

end Go.Proofs.Ytleohdddaadbeaa
