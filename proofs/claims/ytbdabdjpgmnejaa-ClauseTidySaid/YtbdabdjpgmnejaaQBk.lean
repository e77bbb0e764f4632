/- QBk: joined of Vars, Ix, Nr0, Ba0, Mt0, Hr0, Uf0, Num, Reb. -/
import Derived.Test.YtbdabdjpgmnejaaQBc
import Derived.Test.YtbdabdjpgmnejaaQBg
import Derived.Test.YtbdabdjpgmnejaaQBe
import Derived.Test.YtbdabdjpgmnejaaQBf
import Derived.Maps.OwnSet
/- Contract of Vars: a loop over the iterator of subterms that keeps a set and collects. -/
namespace Go.Proofs.Ytbdabdjpgmnejaa
set_option linter.unusedVariables false
set_option linter.unusedSimpArgs false
open Go.RowKit Go.Shelf
attribute [local go_sem] Oper.semAt_some
/-- The variables of Vars between two rounds. -/
def VarI (w : World) (pre : List (Nat × T)) (W : World) : Prop :=
  (∃ v, Boxed W (w.heap.size + 1) 46 v ∧ W.ownsRow w.heap.size 3 1 v (varsOf pre).length ((varsOf pre).map (Value.int .i64))) ∧
  W.ownsMap Try.prog 3 (unitElem (H := Unit)) (w.heap.size + 1 + 1) (varsOf pre).length (Maps.setOf (.agg []) ((varsOf pre).map (Lit.int .i64))) ∧
  Boxed W (w.heap.size + 1 + 1 + 1) 81 (.map (some (w.heap.size + 1 + 1))) ∧ (∀ x ∈ varsOf pre, (Lit.int .i64 x).wf = true) ∧ (varsOf pre).length ≤ pre.length ∧ Below w.heap.size w W
theorem VarI.abides (w : World) (B : Nat) (hB : w.heap.size + 5 ≤ B) : AbidesChg B 26 (VarI w) := by
  rintro pre X Y ⟨⟨v, h1, h2⟩, h3, h4, h5, h6, h7⟩ hc
  refine ⟨⟨v, boxed_below h1 hc.1 (by omega), h2.1, ?_⟩, ?_, boxed_below h4 hc.1 (by omega), h5, h6, h7.trans (hc.1.mono (by omega))⟩
  · rcases h2.2 with h | ⟨g, cap, cur, hv, hg, hh, r⟩
    · exact .inl h
    · exact .inr ⟨g, cap, cur, hv, hg, (hc.2 g _ _ _ hh (by decide)).trans hh, r⟩
  · obtain ⟨es, clock, hb, r⟩ := h3
    exact ⟨es, clock, (hc.1.block _ (by omega)).trans hb, r⟩
set_option maxRecDepth 100000 in
set_option maxHeartbeats 2000000 in
theorem vars_any (t : T) (ht : t.size ≤ 1000000000000) (n₀ : Nat) (a : Option Addr) (c : Nat) (w : World) (hn : n₀ ≤ w.heap.size) (hwf : (Lit.int .i64 t.head).wf = true) (hA : IsArgs n₀ w t.args a c) :
    Calls Try.prog 39 #[tm t.head a t.args.length c] w (varsPost t w) := by
  have HA := Lib.hid (hA.mono hn)
  clear hA hn n₀
  have hmm := @run_makeMap Try.prog
  refine (callsIn_wide (n := 9)).1 ?_
  refine callsIn_of_wp_marks Try.func39 rfl trivial ?_ rfl
  simp only [Try.ntmps39, List.size_toArray, List.length_cons, List.length_nil, Nat.reduceAdd, Nat.reduceSub, Array.replicate_succ, Array.replicate_zero, List.push_toArray, List.append_toArray, List.nil_append, List.cons_append]
  gi_wp2_with (refine ⟨trivial, ?_⟩; gi_at_call 46; refine (callsIn_wide.2 (subterms_any _ _ _ _ _)).mono ?_; rintro e w' ⟨rfl, rfl⟩)
  obtain ⟨W3, hW3⟩ : ∃ W3, (((((w.alloc (tmCells t.head a t.args.length c)).alloc (.cells #[.slice none 0 0] 46)).alloc (.map #[] 0)).alloc (.cells #[.map (some (w.heap.size + 1 + 1))] 81)).alloc (tmCells t.head a t.args.length c)) = W3 := ⟨_, rfl⟩
  have hB3 : Below w.heap.size w W3 := by rw [← hW3]; exact (((((Below.refl _ w).alloc (Nat.le_refl _) _).alloc (by simp) _).alloc (by simp; omega) _).alloc (by simp; omega) _).alloc (by simp; omega) _
  have g1 : Boxed W3 (w.heap.size + 1) 46 (.slice none 0 0) := by rw [← hW3]; exact (((boxed_new_at (by simp) _ _).alloc _).alloc _).alloc _
  have g2 : W3.ownsMap Try.prog 3 (unitElem (H := Unit)) (w.heap.size + 1 + 1) 0 (.map []) := by
    rw [← hW3]
    have h := ((World.ownsMap_made ((w.alloc (tmCells t.head a t.args.length c)).alloc (.cells #[.slice none 0 0] 46)) Try.prog 3 (unitElem (H := Unit))).alloc (.cells #[.map (some (w.heap.size + 1 + 1))] 81)).alloc (tmCells t.head a t.args.length c)
    simpa using h
  have g3 : Boxed W3 (w.heap.size + 1 + 1 + 1) 81 (.map (some (w.heap.size + 1 + 1))) := by rw [← hW3]; exact (boxed_new_at (by simp) _ _).alloc _
  have f3 : W3.cell? ⟨w.heap.size + 1 + 1 + 1 + 1, 0, none⟩ = some (.int .i64 t.head) := by rw [← hW3]; simp [go_sem]
  have f4 : W3.cell? ⟨w.heap.size + 1 + 1 + 1 + 1, 1, none⟩ = some (.slice a t.args.length c) := by rw [← hW3]; simp [go_sem]
  have hs : W3.heap.size = w.heap.size + 5 := by rw [← hW3]; simp
  rw [hW3]
  clear hW3 hmm
  refine wpIn_rangeO rfl (by omega) (gf := 65) (lb := #[.pointer (some ⟨w.heap.size + 1 + 1 + 1 + 1, 0, none⟩)]) rfl trivial (enters_of Try.func65 (by kernel_rfl) rfl)
    (subterms_seqO Fence.wide 8 trivial rfl (by omega) t ht (w.heap.size + 1 + 1 + 1 + 1) w.heap.size a c W3 (by omega) (by omega) hwf f3 f4 (HA.out.below hB3)) (Below.refl _ _) (by omega) (fun _ _ _ _ h => h.size) (fun _ _ _ _ _ h hb => h.below hb)
    (VarI w) (fun _ _ _ => False)
    (VarI.abides w _ (by omega))
    (fun _ _ _ _ h _ => h)
    ⟨⟨_, g1, World.ownsRow_nil _ _ _ _⟩, g2, g3, by simp [varsOf], by simp [varsOf], hB3⟩
    (fun x _ a' W => ∃ Bx a1 c1, W3.heap.size ≤ Bx ∧ W.cell? ⟨Bx, 0, none⟩ = some (.int .i64 x.2.head) ∧ W.cell? ⟨Bx, 1, none⟩ = some (.slice a1 x.2.args.length c1) ∧ (Lit.int .i64 x.2.head).wf = true ∧ a' = { tmps := #[tm t.head a t.args.length c, Value.pointer (some ⟨w.heap.size, 0, none⟩), Value.slice none 0 0, Value.pointer (some ⟨w.heap.size + 1, 0, none⟩), Value.pointer (some ⟨w.heap.size + 1 + 1 + 1, 0, none⟩), undef, Value.pointer (some ⟨Bx, 0, none⟩), undef, undef, undef, Value.map (some (w.heap.size + 1 + 1)), Value.agg #[Value.int IntKind.i64 t.head, Value.slice a t.args.length c], Value.func (Fn.func 65) #[] #[Value.pointer (some ⟨w.heap.size + 1 + 1 + 1 + 1, 0, none⟩)], Value.int .i64 x.1, tm x.2.head a1 x.2.args.length c1, undef, undef, undef, undef, undef, undef, undef, undef, undef, undef, undef, undef, undef, undef, undef, undef, undef, undef, undef, undef, undef], defers := [] })
    (fun x vs a' W l o o' hl ho hoc ⟨Bx, a1, c1, h1, h2, h3, h4, h5⟩ => ⟨Bx, a1, c1, h1, cell_kept h2 (grownBy_putObj' W l o') (fun r e => by cases e; exact ⟨o, ho, hoc⟩), cell_kept h3 (grownBy_putObj' W l o') (fun r e => by cases e; exact ⟨o, ho, hoc⟩), h4, h5⟩) ?assign ?body ?done ?stop
  case assign =>
    rintro l pre x vs W K hsz hi ⟨_, hxw, a1, c1, rfl, _⟩ hK
    have hsz' : w.heap.size + 5 ≤ W.heap.size := by omega
    simp only [fold2, List.setIfInBounds_toArray, List.set]
    gi_wp2
    refine hK _ _ ((KeptO.refl _ _ _ _).alloc (by omega) _) ?_ ⟨W.heap.size, a1, c1, hsz, by simp [go_sem], by simp [go_sem], hxw, rfl⟩
    exact VarI.abides w (w.heap.size + 5) (Nat.le_refl _) _ _ _ hi (Chg.alloc _ _ W hsz' _)
  case body =>
    rintro l pre x vs a' W hsz ⟨⟨v, k1, kr⟩, km, k3, kw, kl, k6⟩ hm ⟨Bx, a1, c1, hBx, hx1, hx2, hxw, rfl⟩
    have hpl := hm.length
    clear hm
    have hz : w.heap.size + 5 ≤ W.heap.size := by omega
    have d1 := k1.cell
    have d3 := k3.cell
    have e1 := k1.frozen
    have HS := Lib.hid hs
    have K1 := Lib.hid k1
    have KR := Lib.hid kr
    have KM := Lib.hid km
    have K3 := Lib.hid k3
    have K6 := Lib.hid k6
    have KW := Lib.hid kw
    have HXW := Lib.hid hxw
    have hxl := (wf_low hxw).1
    clear hs k1 kr km k3 k6 hxw kw
    have hBl : Bx < W.heap.size := World.block_lt_of_cell? W ⟨Bx, 0, none⟩ hx1
    have hx1' : ∀ o, (W.alloc o).cell? ⟨Bx, 0, none⟩ = some (.int .i64 x.2.head) := fun o => (World.cell?_of_block (a := ⟨Bx, 0, none⟩) (Below.heap_alloc W o Bx hBl)).trans hx1
    have hx2' : ∀ o, (W.alloc o).cell? ⟨Bx, 1, none⟩ = some (.slice a1 x.2.args.length c1) := fun o => (World.cell?_of_block (a := ⟨Bx, 1, none⟩) (Below.heap_alloc W o Bx hBl)).trans hx2
    have d3' : ∀ o o', ((W.alloc o).alloc o').cell? ⟨w.heap.size + 1 + 1 + 1, 0, none⟩ = some (.map (some (w.heap.size + 1 + 1))) := fun o o' => ((K3.out.alloc o).alloc o').cell
    have d3'' : ∀ o o' o'', (((W.alloc o).alloc o').alloc o'').cell? ⟨w.heap.size + 1 + 1 + 1, 0, none⟩ = some (.map (some (w.heap.size + 1 + 1))) := fun o o' o'' => (((K3.out.alloc o).alloc o').alloc o'').cell
    by_cases hneg : x.2.head < 0
    · have hdn : decide (x.2.head < 0) = true := by simpa using hneg
      have hkw : (Lit.int .i64 (-1 - x.2.head)).wf = true := WalkArith.wf_i64 (by omega)
      have HKW := Lib.hid hkw
      clear hkw
      obtain ⟨i0, hi, hz0, hz1, hz2⟩ := info_parts info3
      cases hct : (varsOf pre).contains (-1 - x.2.head)
      · have hhas := has_ints (varsOf pre) (-1 - x.2.head)
        rw [hct] at hhas
        have HCT := Lib.hid hct
        clear hct
        gi_wp2_with (first
          | (refine ⟨trivial, ?_⟩; gi_at_call 56; go_must (refine (CallsIn.inRound l (callsIn_wide.2 (isVariable_any _ _ _ _ _))).mono ?_); rintro e w2 ⟨rfl, rfl⟩)
          | (refine ⟨trivial, ?_⟩; gi_at_call 57; go_must (refine (CallsIn.inRound l (callsIn_wide.2 (variable_any _ _ _ _ _ hxl hneg))).mono ?_); rintro e w2 ⟨rfl, rfl⟩)
          | (gi_at_lookup; go_must (refine wpListIn_lookup_own_unit _ rfl _ _ 81 rfl 3 82 (Maps.int_keyed Try.underlying3) Try.underlying81 (Try.zeroValue82 _) (w.heap.size + 1 + 1) (varsOf pre).length _ rfl ((KM.out.alloc _).alloc _) _ _ rfl (Maps.keyOf_int_mk Try.underlying3 HKW.out) ?_))
          | (gi_at_mapUpdate; refine stopHere ?_))
        refine Lib.hid ?_
        refine wpListIn_mapUpdate_own _ rfl _ _ _ 81 rfl 3 82 (Maps.int_keyed Try.underlying3) Try.underlying81 _ (w.heap.size + 1 + 1) (varsOf pre).length _ rfl (((KM.out.alloc _).alloc _).alloc _) (by unfold maxLen; omega) _ _ _ rfl rfl (Maps.keyOf_int_mk Try.underlying3 HKW.out) (.agg []) [] unitElem_mk ?_
        intro w1 hown1 hgrow1
        have b1 := (((K1.out.alloc (tmCells x.2.head a1 x.2.args.length c1)).alloc (tmCells x.2.head a1 x.2.args.length c1)).alloc (.cells #[] 82)).kept hgrow1 (by simp)
        have r1 := (((KR.out.alloc (tmCells x.2.head a1 x.2.args.length c1)).alloc (tmCells x.2.head a1 x.2.args.length c1)).alloc (.cells #[] 82)).kept hgrow1 (row_not_map KM.out KR.out)
        have dd1 := b1.cell
        have ss1 : W.heap.size + 3 ≤ w1.heap.size := by have := hgrow1.size; simpa using this
        have B1 := Lib.hid b1
        have R1 := Lib.hid r1
        have O1 := Lib.hid hown1
        have G1 := Lib.hid hgrow1
        clear b1 r1 hown1 hgrow1
        gi_wp2_with (gi_at_builtin; refine stopHere ?_)
        refine Lib.hid ?_
        refine wpListIn_append_own _ rfl _ _ 46 rfl w.heap.size 3 i0 (.int .i64 0) 1 8 Try.underlying46 hi hz0 hz1 hz2 rfl (by decide) v (varsOf pre).length _ rfl (R1.out.alloc _) ⟨w1.heap.size, 0, none⟩ 1 1 [.int .i64 (-1 - x.2.head)] rfl rfl (cell_one_at _ _ _ _ rfl) (by simp [Value.oneCell']) (by unfold maxLen; omega) (by omega) (by simp; omega) ?_
        intro v' w2 hown2 hgrow2 _
        obtain ⟨g', cap', rfl⟩ := ownsRow_succ hown2
        have b2 := (B1.out.alloc _).kept hgrow2 (B1.out.not_row (by decide) R1.out)
        have dd2 := b2.cell
        have ee2 := b2.frozen
        have B2 := Lib.hid b2
        have O2 := Lib.hid hown2
        have G2 := Lib.hid hgrow2
        clear b2 hown2 hgrow2
        gi_wp2
        have hv : varsOf (pre ++ [x]) = varsOf pre ++ [-1 - x.2.head] := by rw [varsOf_snoc, varStep, if_pos (by omega), HCT.out]; rfl
        have hrow : ∀ k, v.ownBlock = some k → w.heap.size ≤ k ∧ (k < W3.heap.size ∨ ∃ cs e fz, W.heap[k]? = some (Obj.cells cs e fz) ∧ subOwn e = false) := by
          intro k hk
          obtain ⟨cs, fz, h⟩ := Lib.ownsRow_kind KR.out k hk
          exact ⟨(KR.out.lt k hk).1, .inr ⟨cs, _, fz, h, rfl⟩⟩
        have b3 := B2.out.set (.slice (some ⟨g', 0, none⟩) ((varsOf pre).length + 1) cap')
        have r3 := O2.out.kept (grownBy_setCell' w2 (w.heap.size + 1) (.slice (some ⟨g', 0, none⟩) ((varsOf pre).length + 1) cap')) (.inr (B2.out.not_row (by decide) O2.out).symm)
        have m2 := (O1.out.alloc (.cells #[.int .i64 (-1 - x.2.head)] 3)).kept G2.out (fun e => by
          rcases row_not_map KM.out KR.out with h | h
          · rw [h] at e; cases e
          · exact h e.symm)
        have m3 := m2.kept (grownBy_setCell' w2 (w.heap.size + 1) (.slice (some ⟨g', 0, none⟩) ((varsOf pre).length + 1) cap')) (by simp)
        have q1 := (((K3.out.alloc (tmCells x.2.head a1 x.2.args.length c1)).alloc (tmCells x.2.head a1 x.2.args.length c1)).alloc (.cells #[] 82)).kept G1.out (by simp)
        have q2 := (q1.alloc (.cells #[.int .i64 (-1 - x.2.head)] 3)).kept G2.out (q1.not_row (by decide) R1.out)
        have q3 := boxed_other q2 (B' := w.heap.size + 1) (by omega) 0 (.slice (some ⟨g', 0, none⟩) ((varsOf pre).length + 1) cap')
        have kk : KeptO w.heap.size W3.heap.size subOwn W (w2.setCell ⟨w.heap.size + 1, 0, none⟩ (.slice (some ⟨g', 0, none⟩) ((varsOf pre).length + 1) cap')) := by
          refine (((((((KeptO.refl _ _ _ _).alloc (by omega) _).alloc (by omega) _).alloc (by omega) _).grown G1.out (by simp; omega) ?_).alloc (by omega) _).grown G2.out (by simp; omega) hrow).setCell (p := ⟨w.heap.size + 1, 0, none⟩) (by simp) (by have := HS.out; simp; omega) _
          intro k e; cases e; exact ⟨by omega, .inl (by have := HS.out; omega)⟩
        refine ⟨kk, ⟨_, b3, ?_⟩, ?_, q3, ?_, ?_, K6.out.trans kk.1⟩
        · rw [hv]; simpa using r3
        · rw [hv]; simpa [Maps.setOf_snoc] using m3
        · rw [hv]
          intro z hz
          rcases List.mem_append.1 hz with h | h
          · exact KW.out z h
          · obtain rfl := List.mem_singleton.1 h; exact HKW.out
        · rw [hv]; simp; exact kl
      · have hhas := has_ints (varsOf pre) (-1 - x.2.head)
        rw [hct] at hhas
        have HCT := Lib.hid hct
        clear hct
        gi_wp2_with (first
          | (refine ⟨trivial, ?_⟩; gi_at_call 56; go_must (refine (CallsIn.inRound l (callsIn_wide.2 (isVariable_any _ _ _ _ _))).mono ?_); rintro e w2 ⟨rfl, rfl⟩)
          | (refine ⟨trivial, ?_⟩; gi_at_call 57; go_must (refine (CallsIn.inRound l (callsIn_wide.2 (variable_any _ _ _ _ _ hxl hneg))).mono ?_); rintro e w2 ⟨rfl, rfl⟩)
          | (gi_at_lookup; go_must (refine wpListIn_lookup_own_unit _ rfl _ _ 81 rfl 3 82 (Maps.int_keyed Try.underlying3) Try.underlying81 (Try.zeroValue82 _) (w.heap.size + 1 + 1) (varsOf pre).length _ rfl ((KM.out.alloc _).alloc _) _ _ rfl (Maps.keyOf_int_mk Try.underlying3 HKW.out) ?_)))
        have hv : varsOf (pre ++ [x]) = varsOf pre := by rw [varsOf_snoc, varStep, if_pos (by omega), HCT.out]; rfl
        refine ⟨(((KeptO.refl _ _ _ _).alloc (by omega) _).alloc (by omega) _).alloc (by omega) _, ?_⟩
        have hi := VarI.abides w (w.heap.size + 5) (Nat.le_refl _) _ _ _ ⟨⟨v, K1.out, KR.out⟩, KM.out, K3.out, KW.out, kl, K6.out⟩ (((Chg.alloc _ _ W hz (tmCells x.2.head a1 x.2.args.length c1)).trans (Chg.alloc _ _ _ (by simp; omega) (tmCells x.2.head a1 x.2.args.length c1))).trans (Chg.alloc _ _ _ (by simp; omega) (.cells #[] 82)))
        obtain ⟨q1, q2, q3, q4, q5, q6⟩ := hi
        exact ⟨by rw [hv]; exact q1, by rw [hv]; exact q2, q3, by rw [hv]; exact q4, by rw [hv]; simp; omega, q6⟩
    · have hdn : decide (x.2.head < 0) = false := by simpa using hneg
      gi_wp2_with (refine ⟨trivial, ?_⟩; gi_at_call 56; go_must (refine (CallsIn.inRound l (callsIn_wide.2 (isVariable_any _ _ _ _ _))).mono ?_); rintro e w2 ⟨rfl, rfl⟩)
      have hv : varsOf (pre ++ [x]) = varsOf pre := by rw [varsOf_snoc, varStep, if_neg (by omega)]
      refine ⟨(KeptO.refl _ _ _ _).alloc (by omega) _, ?_⟩
      have hi : VarI w pre (W.alloc (tmCells x.2.head a1 x.2.args.length c1)) := VarI.abides w (w.heap.size + 5) (Nat.le_refl _) _ _ _ ⟨⟨v, K1.out, KR.out⟩, KM.out, K3.out, KW.out, kl, K6.out⟩ (Chg.alloc _ _ W hz _)
      obtain ⟨q1, q2, q3, q4, q5, q6⟩ := hi
      exact ⟨by rw [hv]; exact q1, by rw [hv]; exact q2, q3, by rw [hv]; exact q4, by rw [hv]; simp; omega, q6⟩
  case done =>
    rintro D xs W hD rfl ⟨⟨v, k1, kr⟩, km, k3, kw, kl, k6⟩ hK
    have d1 := k1.cell
    gi_wp2
    refine ⟨by simp, .inl ⟨_, _, rfl, run_takeDeferred hK, ?_⟩⟩
    refine ⟨_, results_tmp rfl _ _ _, v, rfl, ?_, k6.trans (below_putObj _ hK (by omega))⟩
    have hr := ownsRow_putObj kr (.deferred none) hK rfl
    rcases hr.2 with ⟨rfl, h0⟩ | ⟨g, cap, cur, rfl, hg, hh, hn, hc, r⟩
    · exact .inl ⟨rfl, List.eq_nil_of_length_eq_zero h0⟩
    · refine .inr ⟨g, cap, rfl, (Array.getElem?_eq_some_iff.1 hh).1, hn, hc, fun j z hz => ?_⟩
      have hj : j < (varsOf (T.subs 1 t)).length := (List.getElem?_eq_some_iff.1 hz).1
      rw [hr.cellAt j (by omega), List.getElem?_map, hz]; rfl
  case stop =>
    rintro D c pre W _ _ h _
    exact h.elim
end Go.Proofs.Ytbdabdjpgmnejaa

/- Places in rows of numbers. -/
namespace Go.Proofs.Ytbdabdjpgmnejaa
set_option linter.unusedVariables false
set_option linter.unusedSimpArgs false
open Go.RowKit
def ix (N : List Int) (v : Int) : Int := (N.idxOf v : Nat)
theorem ix_old {N : List Int} {u v : Int} (h : u ∈ N) : ix (N ++ [v]) u = ix N u := by
  unfold ix
  rw [List.idxOf_append, if_pos h]
theorem ix_new {N : List Int} {v : Int} (h : v ∉ N) : ix (N ++ [v]) v = N.length := by
  unfold ix
  rw [List.idxOf_append, if_neg h]
  simp
end Go.Proofs.Ytbdabdjpgmnejaa

/- Norms of terms; plain. -/
namespace Go.Proofs.Ytbdabdjpgmnejaa
set_option linter.unusedVariables false
set_option linter.unusedSimpArgs false
open Go.RowKit
mutual
def T.nrm : T → List Int → T × List Int
  | .node h ts, N => if h < 0 then (.node (-1 - ix (ddStep N (-1 - h)) (-1 - h)) [], ddStep N (-1 - h)) else (.node h (T.nrms ts N).1, (T.nrms ts N).2)
def T.nrms : List T → List Int → List T × List Int
  | [], N => ([], N)
  | t :: ts, N => ((t.nrm N).1 :: (T.nrms ts (t.nrm N).2).1, (T.nrms ts (t.nrm N).2).2)
end
theorem T.nrm_neg {t : T} {N : List Int} (h : t.head < 0) : t.nrm N = (.node (-1 - ix (ddStep N (-1 - t.head)) (-1 - t.head)) [], ddStep N (-1 - t.head)) := by
  cases t; rw [T.nrm]; exact if_pos h
theorem T.nrm_pos {t : T} {N : List Int} (h : ¬ t.head < 0) : t.nrm N = (.node t.head (T.nrms t.args N).1, (T.nrms t.args N).2) := by
  cases t; rw [T.nrm]; exact if_neg h
theorem T.nrms_append (xs ys : List T) (N : List Int) : T.nrms (xs ++ ys) N = ((T.nrms xs N).1 ++ (T.nrms ys (T.nrms xs N).2).1, (T.nrms ys (T.nrms xs N).2).2) := by
  induction xs generalizing N with
  | nil => simp [T.nrms]
  | cons x xs ih => simp only [List.cons_append, T.nrms, ih]
theorem T.nrms_length (ts : List T) (N : List Int) : (T.nrms ts N).1.length = ts.length := by
  induction ts generalizing N with
  | nil => rfl
  | cons t ts ih => simp [T.nrms, ih]
theorem T.nrms_take {ts : List T} {k : Nat} {s : T} (h : ts[k]? = some s) (N : List Int) : T.nrms (ts.take (k + 1)) N = ((T.nrms (ts.take k) N).1 ++ [(s.nrm (T.nrms (ts.take k) N).2).1], (s.nrm (T.nrms (ts.take k) N).2).2) := by
  obtain ⟨hk, e⟩ := List.getElem?_eq_some_iff.1 h
  rw [List.take_succ_eq_append_getElem hk, e, T.nrms_append]
  simp [T.nrms]
mutual
theorem T.nrm_len (t : T) (N : List Int) : (t.nrm N).2.length ≤ N.length + t.size := by
  match t with
  | .node h ts =>
    rw [T.nrm]
    split
    · have : ∀ v, (ddStep N v).length ≤ N.length + 1 := fun v => by unfold ddStep; split <;> simp
      have := this (-1 - h)
      simp only [T.size]
      omega
    · have := T.nrms_len ts N
      simp only [T.size]
      omega
theorem T.nrms_len (ts : List T) (N : List Int) : (T.nrms ts N).2.length ≤ N.length + T.sizes ts := by
  match ts with
  | [] => simp [T.nrms, T.sizes]
  | t :: ts =>
    have h1 := T.nrm_len t N
    have h2 := T.nrms_len ts (t.nrm N).2
    simp only [T.nrms, T.sizes]
    omega
end
end Go.Proofs.Ytbdabdjpgmnejaa

/- Rows with a bad term; plain. -/
namespace Go.Proofs.Ytbdabdjpgmnejaa
set_option linter.unusedVariables false
set_option linter.unusedSimpArgs false
open Go.RowKit
def badL (ts : List T) : Bool := ts.any fun t => decide (t.check ≠ 0)
def IdxI (ts : List T) (w : World) (i : Value) (wr : World) : Prop := ∃ k : Nat, k ≤ ts.length ∧ i = .int .i64 k ∧ badL ts = badL (ts.drop k) ∧ Below w.heap.size w wr
end Go.Proofs.Ytbdabdjpgmnejaa

/- Mt0: split off Mat. -/
namespace Go.Proofs.Ytbdabdjpgmnejaa
set_option linter.unusedVariables false
set_option linter.unusedSimpArgs false
open Go.RowKit
theorem grown_of_below {w w' : World} {row : Option Nat} (h : Below w.heap.size w w') : w.grownBy w' row := ⟨h.os, h.tape, h.output, h.size, fun k hk _ => h.block k hk⟩
theorem grown_below {n B : Nat} {a b : World} (h : a.grownBy b (some B)) (hn : n ≤ B) (ha : n ≤ a.heap.size) : Below n a b := ⟨h.os, h.tape, h.output, h.size, fun q hq => h.block q (by omega) (by simp; omega)⟩
theorem grown_cell {B b o : Nat} {w w' : World} (h : w.grownBy w' (some B)) (hb : b < w.heap.size) (hne : b ≠ B) : w'.cell? ⟨b, o, none⟩ = w.cell? ⟨b, o, none⟩ := World.cell?_of_block (a := ⟨b, o, none⟩) (h.block b hb (by simpa using hne))
theorem sizes_take_lt {ps : List T} {k : Nat} {p : T} (h : ps[k]? = some p) : T.sizes (ps.take k) + p.size ≤ T.sizes ps := by
  have h3 := T.sizes_append (ps.take k) (ps.drop k)
  rw [List.take_append_drop] at h3
  obtain ⟨hk, e⟩ := List.getElem?_eq_some_iff.1 h
  have h4 : ps.drop k = p :: ps.drop (k + 1) := by rw [List.drop_eq_getElem_cons hk, e]
  rw [h4, T.sizes] at h3
  omega
theorem mNotValid_any (t : T) (ht : t.size ≤ 1000000000000) (n₀ : Nat) (a : Option Addr) (c : Nat) (w : World) (hn : n₀ ≤ w.heap.size) (hwf : (Lit.int .i64 t.head).wf = true) (hA : IsArgs n₀ w t.args a c) :
    Calls Try.prog 52 #[tm t.head a t.args.length c] w fun e w' => e = .returned (.bool (decide (t.check ≠ 0))) ∧ Below w.heap.size w w' := by
  have hb : Below w.heap.size w (w.alloc (tmCells t.head a t.args.length c)) := (Below.refl _ _).alloc (Nat.le_refl _) _
  have CC := Lib.hid (check_any t ht n₀ a c (w.alloc (tmCells t.head a t.args.length c)) (by simp; omega) hwf (hA.below (hb.mono hn)))
  have HB := Lib.hid hb
  clear hb hA
  go_enter Try.func52, Try.ntmps52
  go_wp2_with fail
  refine CC.out.mono ?_
  rintro e w2 ⟨rfl, hb2⟩
  have HB2 := Lib.hid (HB.out.trans (hb2.mono (by simp)))
  clear hb2
  cases hd : decide (t.check ≠ 0)
  · have hz : t.check = 0 := by simpa using hd
    have HZ := Lib.hid hz
    rw [hz]
    have HD := Lib.hid (show decide (t.check ≠ 0) = false from hd)
    clear hd hz
    go_wp2
    go_ret
    refine ⟨?_, HB2.out⟩
    first | (rw [HD.out]; rfl) | (simp [HZ.out])
  · have hz : (t.check == 0) = false := by simpa using hd
    obtain ⟨k, hk⟩ : ∃ k, t.check = k := ⟨_, rfl⟩
    rw [hk] at hz ⊢
    have HD := Lib.hid (show decide (t.check ≠ 0) = true from by rw [hk]; rw [hk] at hd; exact hd)
    clear hd hk
    go_wp2
    go_ret
    refine ⟨?_, HB2.out⟩
    have h2 : (k != 0) = true := by simp [bne, hz]
    have h3 : t.check ≠ 0 := of_decide_eq_true HD.out
    simp [h3, hz]
    try exact h2
    try simpa using h2
abbrev nvFnM : Value := .func (.func 52) #[] #[]
set_option maxRecDepth 100000 in
set_option maxHeartbeats 2000000 in
theorem mIndex_any (ts : List T) (hts : ∀ t ∈ ts, t.size ≤ 1000000000000) (n₀ : Nat) (a : Option Addr) (c : Nat) (w : World) (hn : n₀ ≤ w.heap.size) (hA : IsArgs n₀ w ts a c) :
    Calls Try.prog 66 #[.slice a ts.length c, nvFnM] w fun e w' => ∃ j : Int, e = .returned (.int .i64 j) ∧ decide (0 ≤ j) = badL ts ∧ Below w.heap.size w w' := by
  have hlc : ts.length ≤ c ∧ c ≤ maxLen := ⟨hA.1, hA.2.1⟩
  unfold maxLen at hlc
  obtain ⟨hl1, hl2⟩ := hlc
  have HA := Lib.hid hA
  have HT := Lib.hid hts
  clear hA hts
  go_enter Try.func66, Try.ntmps66
  go_wp2
  go_loopw [8] (fun i wr => IdxI ts w i wr) (fun i _ => ts.length - (intOf i).toNat)
  case atStart => exact ⟨0, Nat.zero_le _, rfl, by simp, Below.refl _ _⟩
  case round =>
    obtain ⟨k, hk, rfl, hbd, hB⟩ := hrel
    have HBD := Lib.hid hbd
    have HB := Lib.hid hB
    have hbz := hB.size
    clear hbd hB
    by_cases hlt : k < ts.length
    · obtain ⟨b, o, s, a', c', rfl, hbn, hs, hswf, hc1, hc2, hA'⟩ := (HA.out.below (HB.out.mono hn)).elem (i := k) hlt
      have hk0 : (0 : Int) ≤ (k : Int) := Int.natCast_nonneg _
      have hk1 : (k : Int) < (ts.length : Int) := by omega
      have hbw : b < wr.heap.size := by omega
      have CN := Lib.hid (mNotValid_any s (HT.out s (List.mem_of_getElem? hs)) n₀ a' c' wr (by omega) hswf hA')
      have hst : badL (ts.drop k) = (decide (s.check ≠ 0) || badL (ts.drop (k + 1))) := by
        obtain ⟨hkl, hke⟩ := List.getElem?_eq_some_iff.1 hs
        rw [List.drop_eq_getElem_cons hkl, hke]; rfl
      have HSTEP := Lib.hid hst
      clear hs hswf hA' hst
      go_wp2_with fail
      refine CN.out.mono ?_
      rintro e w2 ⟨rfl, hb2⟩
      have HB2 := Lib.hid (HB.out.trans (hb2.mono hbz))
      clear hb2
      cases hd : decide (s.check ≠ 0)
      · have H0 := Lib.hid (show badL (ts.drop k) = badL (ts.drop (k + 1)) from by rw [HSTEP.out, hd]; rfl)
        clear hd
        go_wp2
        go_roundw
        case rel => exact ⟨k + 1, by omega, by go_num, HBD.out.trans H0.out, HB2.out⟩
        case measure => simp [intOf]; omega
      · have H0 := Lib.hid (show badL ts = true from by rw [HBD.out, HSTEP.out, hd]; rfl)
        clear hd
        go_wp2
        go_ret
        exact ⟨(k : Int), rfl, by rw [H0.out]; simp, HB2.out⟩
    · obtain rfl : k = ts.length := by omega
      have H0 := Lib.hid (show badL ts = false from by rw [HBD.out, List.drop_of_length_le (Nat.le_refl _)]; rfl)
      go_wp2
      go_ret
      exact ⟨-1, rfl, by rw [H0.out]; rfl, HB.out⟩
theorem mContains_any (ts : List T) (hts : ∀ t ∈ ts, t.size ≤ 1000000000000) (n₀ : Nat) (a : Option Addr) (c : Nat) (w : World) (hn : n₀ ≤ w.heap.size) (hA : IsArgs n₀ w ts a c) :
    Calls Try.prog 51 #[.slice a ts.length c, nvFnM] w fun e w' => e = .returned (.bool (badL ts)) ∧ Below w.heap.size w w' := by
  have CI := Lib.hid (mIndex_any ts hts n₀ a c w hn hA)
  clear hA hts
  go_enter Try.func51, Try.ntmps51
  go_wp2_with fail
  refine CI.out.mono ?_
  rintro e w2 ⟨j, rfl, hj, hb⟩
  have HJ := Lib.hid hj
  have HB := Lib.hid hb
  clear hj hb
  go_wp2
  go_ret
  exact ⟨by rw [← HJ.out]; rfl, HB.out⟩
theorem badL_false {ts : List T} (h : badL ts = false) : ∀ t ∈ ts, t.check = 0 := by
  intro t ht
  unfold badL at h
  rw [List.any_eq_false] at h
  simpa using h t ht
end Go.Proofs.Ytbdabdjpgmnejaa

/- Hr0: split off Tb0. -/
namespace Go.Proofs.Ytbdabdjpgmnejaa
set_option linter.unusedVariables false
set_option linter.unusedSimpArgs false
open Go.RowKit Go.Maps
/-- Elements of maps, read as they are. -/
def heldR (v : Value) : Option (DataW Value × List MemPlace) := some (.held v, [])
theorem keyInt : Keyed Try.prog 3 := int_keyed Try.underlying3
end Go.Proofs.Ytbdabdjpgmnejaa

/- Uf0: split off Uf. -/
namespace Go.Proofs.Ytbdabdjpgmnejaa
set_option linter.unusedVariables false
set_option linter.unusedSimpArgs false
open Go.RowKit Go.Maps
theorem ownsMap_exact {P : Program} {k : TypeId} {R : Value → Option (DataW Value × List MemPlace)} {w : World} {b n : Nat} {D : DataW Value} (h : w.ownsMap P k R b n D) : w.ownsMap P k R b (Maps.size D) D := by
  have := h.size_le
  obtain ⟨es, clock, hb, F, hs, rfl⟩ := h
  exact ⟨es, clock, hb, F, by simp [Maps.size, length_sorted], rfl⟩
def wfi (v : Int) : Prop := -9223372036854775808 ≤ v ∧ v ≤ 9223372036854775807
def upd {α : Type} (f : Int → Option α) (x : Int) (u : α) (v : Int) : Option α := if v = x then some u else f v
theorem wfi.wf {v : Int} (h : wfi v) : (Lit.int .i64 v).wf = true := WalkArith.wf_i64 h
end Go.Proofs.Ytbdabdjpgmnejaa

/- Norm in plain words; contract of the function that numbers variables. -/
namespace Go.Proofs.Ytbdabdjpgmnejaa
set_option linter.unusedVariables false
set_option linter.unusedSimpArgs false
open Go.RowKit Go.Maps
/-! ### A map from numbers to values -/
theorem zeroInt (w : World) : (zeroValue 3).run Try.prog w = .ok (.int .i64 0) w := by kernel_rfl
def MapI (W : World) (M n : Nat) (f : Int → Option Value) : Prop :=
  ∃ D : DataW Value, W.ownsMap Try.prog 3 heldR M n D ∧ Maps.size D = n ∧ ∀ v, wfi v → Maps.has D (.int .i64 v) = (f v).isSome ∧ ∀ u, f v = some u → ∀ z, D.atKey (.int .i64 v) z = .held u
theorem MapI.lt {W : World} {M n : Nat} {f : Int → Option Value} (h : MapI W M n f) : M < W.heap.size := by
  obtain ⟨D, h1, _⟩ := h; exact h1.lt
theorem MapI.kept {W W' : World} {M n : Nat} {f : Int → Option Value} (h : MapI W M n f) (hb : W'.heap[M]? = W.heap[M]?) : MapI W' M n f := by
  obtain ⟨D, ⟨es, clock, hm, r⟩, h2⟩ := h
  exact ⟨D, ⟨es, clock, hb.trans hm, r⟩, h2⟩
theorem MapI.made (w : World) : MapI (w.alloc (.map #[] 0)) w.heap.size 0 (fun _ => none) :=
  ⟨.map [], World.ownsMap_made w Try.prog 3 heldR, rfl, fun v _ => ⟨rfl, by simp⟩⟩
theorem MapI.look {W : World} {M n : Nat} {f : Int → Option Value} (h : MapI W M n f) {t e : TypeId} (ht : Try.prog.underlying t = some (.map 3 e)) {z : Value} (hz : (zeroValue e).run Try.prog W = .ok z W) {v : Int} (hv : wfi v) :
    (Instr.lookup t (.map (some M)) (.int .i64 v) true).run Try.prog W = .ok (.tuple #[(f v).getD z, .bool (f v).isSome]) W := by
  obtain ⟨D, h1, _, h3⟩ := h
  have hkey := keyOf_int_mk (P := Try.prog) (k := 3) Try.underlying3 hv.wf
  obtain ⟨q1, q2⟩ := h3 v hv
  obtain ⟨u, ps, hrun, hu⟩ := h1.look_ok keyInt ht hz (zd := .held z) (zp := []) rfl hkey
  rw [hrun, q1]
  cases hf : f v with
  | none =>
    rw [Maps.atKey_of_not_has (by rw [q1, hf]; rfl)] at hu
    simp only [heldR, Option.some.injEq, Prod.mk.injEq, DataW.held.injEq] at hu
    rw [hu.1]; rfl
  | some x =>
    rw [q2 x hf] at hu
    simp only [heldR, Option.some.injEq, Prod.mk.injEq, DataW.held.injEq] at hu
    rw [hu.1]; rfl
theorem MapI.len {W : World} {M n : Nat} {f : Int → Option Value} (h : MapI W M n f) {t e : TypeId} (ht : Try.prog.underlying t = some (.map 3 e)) (ty : TypeId) : (Builtin.len_ #[t] ty #[.map (some M)]).run Try.prog W = .ok (.int .i64 n) W := by
  obtain ⟨D, h1, h2, _⟩ := h
  rw [h1.len ht, h2]
theorem MapI.put {W : World} {M n : Nat} {f : Int → Option Value} (h : MapI W M n f) {t e : TypeId} (ht : Try.prog.underlying t = some (.map 3 e)) {v : Int} (hv : wfi v) (u : Value) (hn : n ≤ 1000000000000) :
    ∃ w', (Instr.mapUpdate t (.map (some M)) (.int .i64 v) u).run Try.prog W = .ok () w' ∧ MapI w' M (if (f v).isSome then n else n + 1) (upd f v u) ∧ W.grownBy w' (some M) := by
  obtain ⟨D, h1, h2, h3⟩ := h
  have hkey := keyOf_int_mk (P := Try.prog) (k := 3) Try.underlying3 hv.wf
  obtain ⟨w', hrun, r1, r2⟩ := h1.update keyInt ht (by unfold maxLen; omega) hkey (val := u) (d := .held u) (ps := []) rfl
  have hM := h1.isMap
  have hs : Maps.size (D.put (.int .i64 v) (.held u)) = if (f v).isSome then n else n + 1 := by rw [Maps.size_put (h1.tidy keyInt), (h3 v hv).1, h2]
  have r3 := ownsMap_exact r1
  rw [hs] at r3
  refine ⟨w', hrun, ⟨_, r3, hs, fun x hx => ?_⟩, r2⟩
  by_cases e : x = v
  · subst e
    refine ⟨by rw [Maps.has_put_same hM (show WideAt.IsKeyLit (.int .i64 x) from trivial)]; simp [upd], fun y hy z => ?_⟩
    simp only [upd, if_pos, Option.some.injEq] at hy
    rw [← hy]
    exact Maps.atKey_put_same (k := .int .i64 x) hM (show WideAt.IsKeyLit (.int .i64 x) from trivial) _ z
  · have hne : Lit.int .i64 x ≠ Lit.int .i64 v := by intro e'; injection e' with _ e'; exact e e'
    refine ⟨by rw [Maps.has_put_other hne, (h3 x hx).1]; simp [upd, e], fun y hy z => ?_⟩
    simp only [upd, if_neg e] at hy
    rw [Maps.atKey_put_other hne]
    exact (h3 x hx).2 y hy z
/-! ### Numbers of variables, as they come -/
def numF (N : List Int) (v : Int) : Option Value := if N.contains v then some (.int .i64 (ix N v)) else none
theorem numF_snoc {N : List Int} {v : Int} (h : v ∉ N) : numF (N ++ [v]) = upd (numF N) v (.int .i64 (N.length : Nat)) := by
  funext u
  unfold numF upd
  by_cases e : u = v
  · subst e
    rw [if_pos rfl, if_pos (by simp), ix_new h]
  · rw [if_neg e]
    show (if (N ++ [v]).contains u = true then some (Value.int .i64 (ix (N ++ [v]) u)) else none) = if N.contains u = true then some (Value.int .i64 (ix N u)) else none
    by_cases hu : u ∈ N
    · rw [if_pos (by simp [hu]), if_pos (by simpa using hu), ix_old hu]
    · rw [if_neg (by simp [hu, e]), if_neg (by simpa using hu)]
/-- The closure's state: a box that holds a map, which numbers N. -/
def NumR (W : World) (Bp Bm : Nat) (N : List Int) : Prop := W.cell? ⟨Bp, 0, none⟩ = some (.map (some Bm)) ∧ MapI W Bm N.length (numF N) ∧ Bp ≠ Bm
theorem NumR.kept {W W' : World} {Bp Bm : Nat} {N : List Int} (h : NumR W Bp Bm N) (h1 : W'.heap[Bp]? = W.heap[Bp]?) (h2 : W'.heap[Bm]? = W.heap[Bm]?) : NumR W' Bp Bm N :=
  ⟨(World.cell?_of_block (a := ⟨Bp, 0, none⟩) h1).trans h.1, h.2.1.kept h2, h.2.2⟩
theorem NumR.lt {W : World} {Bp Bm : Nat} {N : List Int} (h : NumR W Bp Bm N) : Bp < W.heap.size ∧ Bm < W.heap.size := ⟨World.block_lt_of_cell? W ⟨Bp, 0, none⟩ h.1, h.2.1.lt⟩
theorem NumR.below {W W' : World} {Bp Bm : Nat} {N : List Int} (h : NumR W Bp Bm N) (hb : Below W.heap.size W W') : NumR W' Bp Bm N := h.kept (hb.block _ h.lt.1) (hb.block _ h.lt.2)
def NmPost (Bp Bm : Nat) (N : List Int) (v : Int) (w : World) (e : Ending) (w' : World) : Prop := e = .returned (.int .i64 (ix (ddStep N v) v)) ∧ NumR w' Bp Bm (ddStep N v) ∧ w.grownBy w' (some Bm)
set_option maxRecDepth 100000 in
set_option maxHeartbeats 1000000 in
theorem number_any (N : List Int) (hN : N.length ≤ 1000000000000) (v : Int) (hv : wfi v) (Bp Bm : Nat) (w : World) (hR : NumR w Bp Bm N) :
    Calls Try.prog 67 #[.int .i64 v, .pointer (some ⟨Bp, 0, none⟩)] w (NmPost Bp Bm N v w) := by
  have hlk := hR.2.1.look Try.underlying94 (zeroInt w) hv
  have hln := hR.2.1.len Try.underlying94
  have hlt := hR.lt
  have HR := Lib.hid hR
  have hc := hR.1
  by_cases hin : v ∈ N
  · have hnf : numF N v = some (.int .i64 (ix N v)) := by unfold numF; rw [if_pos (by simpa using hin)]
    have hdd : ddStep N v = N := by unfold ddStep; rw [if_pos (by simpa using hin)]
    rw [hnf] at hlk
    simp only [Option.getD_some, Option.isSome_some] at hlk
    clear hR hnf hin
    go_enter Try.func67, Try.ntmps67
    go_wp2
    go_ret
    unfold NmPost
    rw [hdd]
    exact ⟨rfl, HR.out, grown_of_below (Below.refl _ _)⟩
  · have hnf : numF N v = none := by unfold numF; rw [if_neg (by simpa using hin)]
    have hdd : ddStep N v = N ++ [v] := by unfold ddStep; rw [if_neg (by simpa using hin)]
    obtain ⟨w', hpt, hM, hg⟩ := hR.2.1.put Try.underlying94 hv (.int .i64 (N.length : Nat)) hN
    rw [hnf] at hlk hM
    simp only [Option.getD_none, Option.isSome_none] at hlk
    have HIN := Lib.hid hin
    have HM := Lib.hid hM
    have HG := Lib.hid hg
    clear hR hnf hin hM hg
    go_enter Try.func67, Try.ntmps67
    go_wp2
    go_ret
    unfold NmPost
    rw [hdd, ix_new HIN.out]
    refine ⟨rfl, ⟨?_, ?_, HR.out.2.2⟩, HG.out⟩
    · exact (grown_cell HG.out hlt.1 HR.out.2.2).trans hc
    · have := HM.out
      simp only [Option.isSome_none, Bool.false_eq_true, if_false] at this
      rw [numF_snoc HIN.out]
      simpa using this
end Go.Proofs.Ytbdabdjpgmnejaa

/- Contract of rebuild: a term anew, with a replacement for each variable. -/
namespace Go.Proofs.Ytbdabdjpgmnejaa
set_option linter.unusedVariables false
set_option linter.unusedSimpArgs false
open Go.RowKit
/-- The cells of a block begin with those of a row that lies in it. -/
theorem row_split {w : World} {g : Nat} {cur : Array Value} {ty : TypeId} {fr : Nat × Nat} (hb : w.heap[g]? = some (.cells cur ty fr)) {os : List Value} (hc : ∀ j u, os[j]? = some u → w.cell? ⟨g, 0 + j, none⟩ = some u) : ∃ sp, cur.toList = os ++ sp := by
  refine ⟨cur.toList.drop os.length, ?_⟩
  apply List.ext_getElem?
  intro i
  by_cases hi : i < os.length
  · rw [List.getElem?_append_left hi, List.getElem?_eq_getElem hi]
    have h := hc i _ (List.getElem?_eq_getElem hi)
    rw [Nat.zero_add] at h
    simpa [World.cell?, hb] using h
  · rw [List.getElem?_append_right (by omega), List.getElem?_drop]
    congr 1
    omega
theorem cell_of_split {w : World} {g : Nat} {cur : Array Value} {ty : TypeId} {fr : Nat × Nat} (hb : w.heap[g]? = some (.cells cur ty fr)) {l : List Value} (hl : cur.toList = l) {j : Nat} {u : Value} (hu : l[j]? = some u) : w.cell? ⟨g, j, none⟩ = some u := by
  subst hl
  simpa [World.cell?, hb] using hu
end Go.Proofs.Ytbdabdjpgmnejaa
