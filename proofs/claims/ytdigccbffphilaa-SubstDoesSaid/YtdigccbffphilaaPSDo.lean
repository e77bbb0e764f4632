/- Proved: for all arguments that can be read, SubstDoes returns true, and the arguments read afterwards as before. No condition beyond the row's own. -/
import Derived.Test.YtdigccbffphilaaLaw3
import Derived.Test.YtdigccbffphilaaWSDo
import Derived.Test.YtdigccbffphilaaRRt
namespace Go.Proofs.Ytdigccbffphilaa
open Go.ChangeShapes Go.WideShapes Go.ChangeAt Go.RowKit

theorem substDoes_walk (s : Sb) (t : T) (n : Int) (as_ : Option Addr) (cs : Nat) (a : Option Addr) (c : Nat) (w : World) (htw : (Lit.int .i64 t.head).wf = true) (hnw : (Lit.int .i64 n).wf = true) (hS : IsBs w.heap.size w s as_ cs) (hA : IsArgs w.heap.size w t.args a c) :
    Calls Try.prog 4 #[.slice as_ s.length cs, tm t.head a t.args.length c, .int .i64 n] w fun e w' => e = .returned (.bool true) ∧ Below w.heap.size w w' :=
  substDoes_walk0 (fun s h n₀ a c w hn hS => refRightS_any s h n₀ a c w hn hS) (fun s h n₀ a c w hn hS => refCheckS_any s h n₀ a c w hn hS) s t n as_ cs a c w htw hnw hS hA

set_option maxRecDepth 100000 in
theorem substDoes_lifted (os : Os) (started : os.Started) (H : Type) (enc : TypeId × Value → H) :
    ReturnsInHanded {} Try.checked os 4 .any (Rows.substDoesSpec.pre6 enc Try.prog Try.f4 Rows.substDoesRow.domain false) (Rows.substDoesSpec.post enc Try.prog Try.f4 false true false false) := by
  refine returnsInHanded_of_change (C := Try.checked) own started (by kernel_rfl) Try.func4
    (ChangeSpec.witness6 (enc := enc) (C := Try.checked) false ⟨#[], #[.slice none 0 0, .agg #[.int .i64 0, .slice none 0 0], .int .i64 0], []⟩ 8 (by kernel_rfl) (by kernel_rfl) (by kernel_rfl) (by kernel_rfl)) ?_
  intro W base args ds gs before hval hW _ _
  have hW' := hW
  obtain ⟨p, q, hA0, hV, rfl, _, _⟩ := hW
  have hA : DataW.TrodAll enc Try.prog W 0 (fun _ => true) true Try.f4.params.toList args.toList ds p := hA0
  have hval' : ∀ (j : Nat) t v, Try.f4.params[j]? = some t → args[j]? = some v → Value.okWide Try.prog W .any base t v := hval
  rw [Try.params4] at hA hval'
  obtain ⟨v0, v1, v2, d0, d1, d2, p0, p1, p2, rfl, rfl, rfl, h0, h1, h2⟩ := trodAll_three hA
  obtain ⟨x0, a0, c0, rfl, m0⟩ := open_bs (hval' 0 _ v0 rfl rfl) h0
  obtain ⟨x1, a1, c1, rfl, hw1, m1⟩ := open_term (hval' 1 _ v1 rfl rfl) h1
  obtain ⟨x2, rfl, rfl, rfl, hw2⟩ := open_int Try.underlying3 (hval' 2 _ v2 rfl rfl) h2
  refine (substDoes_walk x0 x1 x2 a0 c0 a1 c1 W hw1 hw2 m0 m1).mono fun e W' ⟨he, hb⟩ => ?_
  subst he
  exact ⟨_, rfl, post_law laid Try.underlying4 (by kernel_rfl) rfl (of_decide_eq_true (by kernel_rfl)) (fun gs hg => by subst hg; rfl) hW' hb⟩

theorem substDoes_holds : Rows.SubstDoesSaid :=
  OpenClaim.holds_of_wide 4 Try.f4 rfl rfl rfl rfl rfl rfl rfl ⟨rfl, rfl, rfl, rfl, rfl⟩ rfl rfl rfl rfl rfl (by kernel_rfl) Try.func4 (by kernel_rfl)
    (of_decide_eq_true (by kernel_rfl)) (by unfold Func.isWrapper; first | (rw [if_pos (by decide +kernel)]; kernel_rfl) | (rw [if_neg (by decide +kernel)]; exact ⟨rfl, rfl⟩))
    (fun os started H enc _ => substDoes_lifted os started H enc)

end Go.Proofs.Ytdigccbffphilaa
