/- Proved: for all arguments that can be read, LitHolds returns true, and the arguments read afterwards as before. No condition beyond the row's own. -/
import Derived.Test.YtleohdddaadbeaaLaw9w
import Derived.Test.YtleohdddaadbeaaLaw2
import Derived.Test.YtleohdddaadbeaaWLHo
namespace Go.Proofs.Ytleohdddaadbeaa
open Go.ChangeShapes Go.WideShapes Go.ChangeAt Go.RowKit

set_option maxRecDepth 100000 in
theorem litHolds_lifted (os : Os) (started : os.Started) (H : Type) (enc : TypeId × Value → H) :
    ReturnsInHanded {} Try.checked os 6 .any (Rows.litHoldsSpec.pre6 enc Try.prog Try.f6 Rows.litHoldsRow.domain false) (Rows.litHoldsSpec.post enc Try.prog Try.f6 false true false false) := by
  refine returnsInHanded_of_change (C := Try.checked) own started (by kernel_rfl) Try.func6
    (ChangeSpec.witness6 (enc := enc) (C := Try.checked) false ⟨#[], #[.slice none 0 0, .agg #[.int .i64 0, .slice none 0 0], .agg #[.bool false, .int .i64 0, .slice none 0 0, .int .i64 0, .slice none 0 0], .agg #[.bool false, .int .i64 0, .slice none 0 0, .int .i64 0, .slice none 0 0], .slice none 0 0], []⟩ 8 (by kernel_rfl) (by kernel_rfl) (by kernel_rfl) (by kernel_rfl)) ?_
  intro W base args ds gs before hval hW _ _
  have hW' := hW
  obtain ⟨p, q, hA0, hV, rfl, _, _⟩ := hW
  have hA : DataW.TrodAll enc Try.prog W 0 (fun _ => true) true Try.f6.params.toList args.toList ds p := hA0
  have hval' : ∀ (j : Nat) t v, Try.f6.params[j]? = some t → args[j]? = some v → Value.okWide Try.prog W .any base t v := hval
  rw [Try.params6] at hA hval'
  obtain ⟨v0, v1, v2, v3, v4, d0, d1, d2, d3, d4, p0, p1, p2, p3, p4, rfl, rfl, rfl, h0, h1, h2, h3, h4⟩ := trodAll_five hA
  obtain ⟨x0, a0, c0, rfl, m0⟩ := open_sg (hval' 0 _ v0 rfl rfl) h0
  obtain ⟨x1, a1, c1, rfl, hw1, m1⟩ := open_ip (hval' 1 _ v1 rfl rfl) h1
  obtain ⟨x2, rfl, m2⟩ := open_lit (hval' 2 _ v2 rfl rfl) h2
  obtain ⟨x3, rfl, m3⟩ := open_lit (hval' 3 _ v3 rfl rfl) h3
  obtain ⟨x4, a4, c4, rfl, m4⟩ := open_is (hval' 4 _ v4 rfl rfl) h4
  refine (litHolds_walk x0 x1 x2 x3 x4 a0 c0 a1 c1 a4 c4 W hw1 m0 m1 m2 m3 m4).mono fun e W' ⟨he, hb⟩ => ?_
  subst he
  exact ⟨_, rfl, post_law laid Try.underlying4 (by kernel_rfl) rfl (of_decide_eq_true (by kernel_rfl)) (fun gs hg => by subst hg; rfl) hW' hb⟩

theorem litHolds_holds : Rows.LitHoldsSaid :=
  OpenClaim.holds_of_wide 6 Try.f6 rfl rfl rfl rfl rfl rfl rfl ⟨rfl, rfl, rfl, rfl, rfl⟩ rfl rfl rfl rfl rfl (by kernel_rfl) Try.func6 (by kernel_rfl)
    (of_decide_eq_true (by kernel_rfl)) (by unfold Func.isWrapper; first | (rw [if_pos (by decide +kernel)]; kernel_rfl) | (rw [if_neg (by decide +kernel)]; exact ⟨rfl, rfl⟩))
    (fun os started H enc _ => litHolds_lifted os started H enc)

end Go.Proofs.Ytleohdddaadbeaa
