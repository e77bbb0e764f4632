/- Contract of slices.Clone, at slices of terms. -/
import Derived.Test.YtgjamdbiamleoaaCl0
namespace Go.Proofs.Ytgjamdbiamleoaa
set_option linter.unusedVariables false
set_option linter.unusedSimpArgs false
open Go.RowKit

set_option maxRecDepth 100000 in
set_option maxHeartbeats 1000000 in
theorem clone_any (ts : List T) (hts : ts.length ≤ 1000000000000) (n₀ : Nat) (a : Option Addr) (c : Nat) (w : World) (hn : n₀ ≤ w.heap.size) (hA : IsArgs n₀ w ts a c) :
    Calls Try.prog 80 #[.slice a ts.length c] w (ClonePost n₀ ts w) := by
  have q22 : ∀ (w : World) (a : Option Addr) (n c n' c' : Nat), (binOp .eql 23 (.slice a n c) (.slice none n' c')).run Try.prog w = .ok (.bool a.isNone) w := fun w a n c n' c' => Lib.run_eql_slice_nil w _ _ a n c n' c' Try.underlying23
  cases a with
  | none =>
    have h0 : ts = [] := by rcases hA.2.2 with h | ⟨_, _, h, _⟩; exact h; cases h
    subst h0
    go_enter Try.func80, Try.ntmps80
    go_wp2
    go_ret
    exact ⟨none, 0, rfl, ⟨by simp, by simp [maxLen], .inl rfl⟩, Below.refl _ _⟩
  | some ad =>
    have hnews : ∃ news : List Value, news.length = ts.length * 2 ∧ (∀ j u, news[j]? = some u → w.cell? (ad.add j) = some u) ∧ (∀ u ∈ news, u.oneCell' = true) ∧
        ∀ (W : World) (g q : Nat), Below n₀ w W → (∀ j u, news[j]? = some u → W.cell? ⟨g, q + j, none⟩ = some u) → IsRow n₀ W ts g q := by
      rcases hA.2.2 with rfl | ⟨b, o, h, hb, hrow⟩
      · exact ⟨[], rfl, by simp, by simp, fun _ _ _ _ _ => trivial⟩
      · cases h
        obtain ⟨news, h1, h2, h3, h4⟩ := row_cells ts b o hrow
        exact ⟨news, h1, fun j u hj => by rw [show ((⟨b, o, none⟩ : Addr).add j) = ⟨b, o + j, none⟩ from by unfold Addr.add; split <;> simp_all]; exact h2 j u hj, h3, h4⟩
    obtain ⟨news, h1, h2, h3, h4⟩ := hnews
    have hlt : ∀ j u, news[j]? = some u → (ad.add j).block < w.heap.size := fun j u hj => World.block_lt_of_cell? w _ (h2 j u hj)
    have H2 := Lib.hid h2
    have H3 := Lib.hid h3
    have H4 := Lib.hid h4
    have H1 := Lib.hid h1
    have HLT := Lib.hid hlt
    obtain ⟨i0, hi, hz0, hz1, hz2⟩ := info_parts infoTerm
    clear h1 h2 h3 h4 hA hlt
    go_enter Try.func80, Try.ntmps80
    go_wp2_with (at_builtin; refine stopHere ?_)
    refine Lib.hid ?_
    refine wpList_append_own _ rfl _ _ 23 rfl w.heap.size 25 i0 (.agg #[.int .i64 0, .slice none 0 0]) 2 32 Try.underlying23 hi hz0 hz1 hz2 rfl (by decide) (.slice (some ⟨w.heap.size, 0, none⟩) 0 0) 0 [] rfl
      (World.ownsRow_made w #[] 0 (Nat.le_refl _) (by simp [maxLen]) rfl) ad ts.length c news rfl H1.out (fun j u hj => (World.cell?_of_block (Below.heap_alloc w _ _ (HLT.out j u hj))).trans (H2.out j u hj)) H3.out (by unfold maxLen; omega) (by omega) (by simp) ?_
    intro v' w2 hown hgr _
    have hb2 : Below w.heap.size w w2 := ((Below.refl _ w).alloc (Nat.le_refl _) _).grown hgr (by simp) (by intro k hk; simp [Value.ownBlock] at hk; omega)
    have HB := Lib.hid hb2
    have HO := Lib.hid hown
    clear hown hgr hb2
    go_wp2
    go_ret
    have hown := HO.out
    simp only [Nat.zero_add, List.nil_append] at hown
    obtain ⟨a2, c2, e, hr⟩ := newRow_of_owns (HB.out.mono hn) hown H4.out
    refine ⟨a2, c2, ?_, hr, HB.out⟩
    subst e
    rfl

end Go.Proofs.Ytgjamdbiamleoaa
