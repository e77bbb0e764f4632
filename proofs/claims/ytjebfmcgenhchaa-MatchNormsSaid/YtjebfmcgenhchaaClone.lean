/- Contract of slices.Clone, at slices of terms. -/
import Derived.Test.YtjebfmcgenhchaaLeaf
import Derived.Test.YtjebfmcgenhchaaSub
import Derived.Lib.SliceRun
namespace Go.Proofs.Ytjebfmcgenhchaa
set_option linter.unusedVariables false
set_option linter.unusedSimpArgs false
open Go.RowKit

theorem infoTerm : (Try.prog.info? 24).map (fun i => (i.zero, i.size, i.bytes)) = some (some (.agg #[.int .i64 0, .slice none 0 0]), 2, 32) := by kernel_rfl

/-- A slice of terms in a block of its own, not below lo, that begins with the slice. -/
def NewRow (n₀ lo : Nat) (w : World) (ts : List T) (a : Option Addr) (c : Nat) : Prop :=
  ts.length ≤ c ∧ c ≤ maxLen ∧ (ts = [] ∨ ∃ g cur, a = some ⟨g, 0, none⟩ ∧ lo ≤ g ∧ w.heap[g]? = some (.cells cur 24 (0, 0)) ∧ cur.size = c * 2 ∧ IsRow n₀ w ts g 0)

theorem row_cells {n₀ : Nat} {w : World} : ∀ (ts : List T) (b o : Nat), IsRow n₀ w ts b o → ∃ news : List Value, news.length = ts.length * 2 ∧ (∀ j u, news[j]? = some u → w.cell? ⟨b, o + j, none⟩ = some u) ∧ (∀ u ∈ news, u.oneCell' = true) ∧
    ∀ (W : World) (g q : Nat), Below n₀ w W → (∀ j u, news[j]? = some u → W.cell? ⟨g, q + j, none⟩ = some u) → IsRow n₀ W ts g q := by
  intro ts
  induction ts with
  | nil => intro b o _; exact ⟨[], rfl, by simp, by simp, fun _ _ _ _ _ => trivial⟩
  | cons t ts ih =>
    intro b o h
    simp only [IsRow] at h
    obtain ⟨ht, hr⟩ := h
    obtain ⟨news, hl, hc, h1, hW⟩ := ih b (o + 2) hr
    obtain ⟨wf, p1, a, c, p2, hA⟩ := isT_iff.1 ht
    refine ⟨.int .i64 t.head :: .slice a t.args.length c :: news, by simp [hl]; omega, ?_, ?_, ?_⟩
    · intro j u hj
      match j, hj with
      | 0, hj => simp at hj; subst hj; exact p1
      | 1, hj => simp at hj; subst hj; exact p2
      | j + 2, hj => rw [show o + (j + 2) = o + 2 + j from by omega]; exact hc j u (by simpa using hj)
    · intro u hu
      simp at hu
      rcases hu with rfl | rfl | hu
      · rfl
      · rfl
      · exact h1 u hu
    · intro W g q hB hcell
      simp only [IsRow]
      refine ⟨isT_iff.2 ⟨wf, by simpa using hcell 0 _ rfl, a, c, hcell 1 _ rfl, hA.below hB⟩, hW W g (q + 2) hB (fun j u hj => ?_)⟩
      rw [show q + 2 + j = q + (j + 2) from by omega]
      exact hcell (j + 2) u (by simpa using hj)

def ClonePost (n₀ : Nat) (ts : List T) (w : World) (e : Ending) (w' : World) : Prop := ∃ a2 c2, e = .returned (.slice a2 ts.length c2) ∧ NewRow n₀ w.heap.size w' ts a2 c2 ∧ Below w.heap.size w w'

theorem newRow_of_owns {n₀ base : Nat} {w w' : World} {v : Value} {ts : List T} {news : List Value} (hb : Below n₀ w w') (hown : w'.ownsRow base 24 2 v ts.length news)
    (hW : ∀ (W : World) (g q : Nat), Below n₀ w W → (∀ j u, news[j]? = some u → W.cell? ⟨g, q + j, none⟩ = some u) → IsRow n₀ W ts g q) : ∃ a2 c2, v = .slice a2 ts.length c2 ∧ NewRow n₀ base w' ts a2 c2 := by
  have hcells := fun g hg => hown.cells (g := g) hg
  rcases hown.2 with ⟨rfl, h0⟩ | ⟨g, cap, cur, rfl, hg, hh, hn, hc, hs, _⟩
  · exact ⟨none, 0, by rw [h0], by omega, by simp [maxLen], .inl (List.eq_nil_of_length_eq_zero h0)⟩
  · refine ⟨_, cap, rfl, hn, hc, .inr ⟨g, cur, rfl, hg, hh, hs, hW w' g 0 hb (fun j u hj => ?_)⟩⟩
    have := hcells g rfl j u hj
    rw [show ((⟨g, 0, none⟩ : Addr).add j) = ⟨g, 0 + j, none⟩ from by unfold Addr.add; split <;> simp_all] at this
    exact this

set_option maxRecDepth 100000 in
set_option maxHeartbeats 1000000 in
theorem clone_any (ts : List T) (hts : ts.length ≤ 1000000) (n₀ : Nat) (a : Option Addr) (c : Nat) (w : World) (hn : n₀ ≤ w.heap.size) (hA : IsArgs n₀ w ts a c) :
    Calls Try.prog 84 #[.slice a ts.length c] w (ClonePost n₀ ts w) := by
  have q22 : ∀ (w : World) (a : Option Addr) (n c n' c' : Nat), (binOp .eql 22 (.slice a n c) (.slice none n' c')).run Try.prog w = .ok (.bool a.isNone) w := fun w a n c n' c' => Lib.run_eql_slice_nil w _ _ a n c n' c' Try.underlying22
  cases a with
  | none =>
    have h0 : ts = [] := by rcases hA.2.2 with h | ⟨_, _, h, _⟩; exact h; cases h
    subst h0
    go_enter Try.func84, Try.ntmps84
    go_wp2
    go_ret
    exact ⟨none, 0, rfl, ⟨by simp, by simp [maxLen], .inl rfl⟩, Below.refl _ _⟩
  | some ad =>
    have hnews : ∃ news : List Value, news.length = ts.length * 2 ∧ (∀ j u, news[j]? = some u → w.cell? (ad.add j) = some u) ∧ (∀ u ∈ news, u.oneCell' = true) ∧
        ∀ (W : World) (g q : Nat), Below n₀ w W → (∀ j u, news[j]? = some u → W.cell? ⟨g, q + j, none⟩ = some u) → IsRow n₀ W ts g q := by
      rcases hA.2.2 with rfl | ⟨b, o, h, hb, hrow⟩
      · exact ⟨[], rfl, by simp, by simp, fun _ _ _ _ _ => trivial⟩
      · cases h
        obtain ⟨news, h1, h2, h3, h4⟩ := row_cells ts b o hrow
        exact ⟨news, h1, fun j u hj => by rw [show ((⟨b, o, none⟩ : Addr).add j) = ⟨b, o + j, none⟩ from by unfold Addr.add; split <;> simp_all]; exact h2 j u hj, h3, h4⟩
    obtain ⟨news, h1, h2, h3, h4⟩ := hnews
    have hlt : ∀ j u, news[j]? = some u → (ad.add j).block < w.heap.size := fun j u hj => World.block_lt_of_cell? w _ (h2 j u hj)
    have H2 := Lib.hid h2
    have H3 := Lib.hid h3
    have H4 := Lib.hid h4
    have H1 := Lib.hid h1
    have HLT := Lib.hid hlt
    obtain ⟨i0, hi, hz0, hz1, hz2⟩ := info_parts infoTerm
    clear h1 h2 h3 h4 hA hlt
    go_enter Try.func84, Try.ntmps84
    go_wp2_with (at_builtin; refine stopHere ?_)
    refine Lib.hid ?_
    refine wpList_append_own _ rfl _ _ 22 rfl w.heap.size 24 i0 (.agg #[.int .i64 0, .slice none 0 0]) 2 32 Try.underlying22 hi hz0 hz1 hz2 rfl (by decide) (.slice (some ⟨w.heap.size, 0, none⟩) 0 0) 0 [] rfl
      (World.ownsRow_made w #[] 0 (Nat.le_refl _) (by simp [maxLen]) rfl) ad ts.length c news rfl H1.out (fun j u hj => (World.cell?_of_block (Below.heap_alloc w _ _ (HLT.out j u hj))).trans (H2.out j u hj)) H3.out (by unfold maxLen; omega) (by omega) (by simp) ?_
    intro v' w2 hown hgr _
    have hb2 : Below w.heap.size w w2 := ((Below.refl _ w).alloc (Nat.le_refl _) _).grown hgr (by simp) (by intro k hk; simp [Value.ownBlock] at hk; omega)
    have HB := Lib.hid hb2
    have HO := Lib.hid hown
    clear hown hgr hb2
    go_wp2
    go_ret
    have hown := HO.out
    simp only [Nat.zero_add, List.nil_append] at hown
    obtain ⟨a2, c2, e, hr⟩ := newRow_of_owns (HB.out.mono hn) hown H4.out
    refine ⟨a2, c2, ?_, hr, HB.out⟩
    subst e
    rfl

end Go.Proofs.Ytjebfmcgenhchaa
