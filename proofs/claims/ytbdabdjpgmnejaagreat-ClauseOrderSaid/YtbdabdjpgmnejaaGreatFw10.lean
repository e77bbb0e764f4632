/- Contract of layer 10's few. -/
import Derived.Test.YtbdabdjpgmnejaaGreatQDb
import Derived.Test.YtbdabdjpgmnejaaGreatQBp
namespace Go.Proofs.YtbdabdjpgmnejaaGreat
set_option linter.unusedVariables false
set_option linter.unusedSimpArgs false
open Go.RowKit

/-- A clause with few parts. -/
def FewC (P : List LV) : Prop := P.length ≤ 40 ∧ T.sizes (sidesC (t3s P)) ≤ 500
theorem FewC.sz {P : List LV} (h : FewC P) : ∀ x ∈ P, x.sz := fun x hx => by
  have h2 : ∀ t ∈ sidesC (t3s P), t.size ≤ 500 := fun t ht => Nat.le_trans (mem_sizes ht) h.2
  have : ∀ t, t = x.l ∨ t = x.r → t ∈ sidesC (t3s P) := fun t ht => by
    unfold sidesC
    rw [List.mem_flatten]
    refine ⟨[x.l, x.r], List.mem_map.2 ⟨x.t3, List.mem_map.2 ⟨x, hx, rfl⟩, rfl⟩, by simpa using ht⟩
  have h3 := h2 _ (this _ (.inl rfl))
  have h4 := h2 _ (this _ (.inr rfl))
  exact ⟨by omega, by omega⟩
def FwPost10 (A B : List LV) (w : World) (e : Ending) (w' : World) : Prop := ∃ b : Bool, e = .returned (.bool b) ∧ (b = true → FewC A ∧ FewC B) ∧ Below w.heap.size w w'

set_option maxRecDepth 100000 in
set_option maxHeartbeats 2000000 in
theorem fewL10_any (g : Sg) (A B : List LV) (n₀ : Nat) (ga : Option Addr) (gc : Nat) (pa : Option Addr) (ca : Nat) (pb : Option Addr) (cb : Nat) (w : World) (hn : n₀ ≤ w.heap.size) (hG : IsSg n₀ w g ga gc) (hA : IsCl n₀ w A pa ca) (hB : IsCl n₀ w B pb cb) :
    Calls Tryz.prog 6 #[.slice ga g.length gc, .slice pa A.length ca, .slice pb B.length cb] w (FwPost10 A B w) := by
  have HA := Lib.hid (hA.mono hn)
  have HB := Lib.hid (hB.mono hn)
  have CG := Lib.hid (fewG_any g n₀ ga gc w hn hG)
  clear hG hA hB
  go_enter Tryz.func6, Tryz.ntmps6
  go_wp2_with fail
  refine CG.out.mono ?_
  rintro e w2 ⟨b, rfl, hb⟩
  have HB2 := Lib.hid hb
  clear hb CG
  cases b with
  | false =>
    go_wp2
    go_ret
    exact ⟨false, rfl, (fun h => by cases h), HB2.out⟩
  | true =>
    go_wp2_with fail
    refine (few10_any A w.heap.size pa ca w2 HB2.out.size (HA.out.below HB2.out)).mono ?_
    rintro e w3 ⟨b, rfl, hf, hb⟩
    have HB3 := Lib.hid (HB2.out.trans (hb.mono HB2.out.size))
    have HF := Lib.hid hf
    clear hb hf
    cases b with
    | false =>
      go_wp2
      go_ret
      exact ⟨false, rfl, (fun h => by cases h), HB3.out⟩
    | true =>
      go_wp2_with fail
      refine (few10_any B w.heap.size pb cb w3 HB3.out.size (HB.out.below HB3.out)).mono ?_
      rintro e w4 ⟨b, rfl, hf, hb⟩
      have HB4 := Lib.hid (HB3.out.trans (hb.mono HB3.out.size))
      have HF2 := Lib.hid hf
      clear hb hf
      cases b
      all_goals
        go_wp2
        go_ret
        exact ⟨_, rfl, fun h => (by first | (cases h; done) | exact ⟨HF.out (by trivial), HF2.out (by trivial)⟩), HB4.out⟩

end Go.Proofs.YtbdabdjpgmnejaaGreat
