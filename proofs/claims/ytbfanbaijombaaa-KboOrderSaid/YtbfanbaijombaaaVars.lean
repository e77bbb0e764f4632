/- Contract of Vars: a loop over the iterator of subterms that keeps a set and collects. -/
import Derived.Test.YtbfanbaijombaaaQ1b
namespace Go.Proofs.Ytbfanbaijombaaa
set_option linter.unusedVariables false
set_option linter.unusedSimpArgs false
open Go.RowKit Go.Shelf
attribute [local go_sem] Oper.semAt_some

/-- The variables of Vars between two rounds. -/
def VarI (w : World) (pre : List (Nat × T)) (W : World) : Prop :=
  (∃ v, Boxed W (w.heap.size + 1) 35 v ∧ W.ownsRow w.heap.size 3 1 v (varsOf pre).length ((varsOf pre).map (Value.int .i64))) ∧
  W.ownsMap Try.prog 3 (unitElem (H := Unit)) (w.heap.size + 1 + 1) (varsOf pre).length (Maps.setOf (.agg []) ((varsOf pre).map (Lit.int .i64))) ∧
  Boxed W (w.heap.size + 1 + 1 + 1) 63 (.map (some (w.heap.size + 1 + 1))) ∧ (∀ x ∈ varsOf pre, (Lit.int .i64 x).wf = true) ∧ (varsOf pre).length ≤ pre.length ∧ Below w.heap.size w W

theorem VarI.abides (w : World) (B : Nat) (hB : w.heap.size + 5 ≤ B) : AbidesChg B 23 (VarI w) := by
  rintro pre X Y ⟨⟨v, h1, h2⟩, h3, h4, h5, h6, h7⟩ hc
  refine ⟨⟨v, boxed_below h1 hc.1 (by omega), h2.1, ?_⟩, ?_, boxed_below h4 hc.1 (by omega), h5, h6, h7.trans (hc.1.mono (by omega))⟩
  · rcases h2.2 with h | ⟨g, cap, cur, hv, hg, hh, r⟩
    · exact .inl h
    · exact .inr ⟨g, cap, cur, hv, hg, (hc.2 g _ _ _ hh (by decide)).trans hh, r⟩
  · obtain ⟨es, clock, hb, r⟩ := h3
    exact ⟨es, clock, (hc.1.block _ (by omega)).trans hb, r⟩

set_option maxRecDepth 100000 in
set_option maxHeartbeats 2000000 in
theorem vars_any (t : T) (ht : t.size ≤ 1000000000000) (n₀ : Nat) (a : Option Addr) (c : Nat) (w : World) (hn : n₀ ≤ w.heap.size) (hwf : (Lit.int .i64 t.head).wf = true) (hA : IsArgs n₀ w t.args a c) :
    Calls Try.prog 16 #[tm t.head a t.args.length c] w (varsPost t w) := by
  have HA := Lib.hid (hA.mono hn)
  clear hA hn n₀
  have hmm := @run_makeMap Try.prog
  refine (callsIn_wide (n := 9)).1 ?_
  refine callsIn_of_wp_marks Try.func16 rfl trivial ?_ rfl
  simp only [Try.ntmps16, List.size_toArray, List.length_cons, List.length_nil, Nat.reduceAdd, Nat.reduceSub, Array.replicate_succ, Array.replicate_zero, List.push_toArray, List.append_toArray, List.nil_append, List.cons_append]
  gi_wp2_with (refine ⟨trivial, ?_⟩; gi_at_call 34; refine (callsIn_wide.2 (subterms_any _ _ _ _ _)).mono ?_; rintro e w' ⟨rfl, rfl⟩)
  obtain ⟨W3, hW3⟩ : ∃ W3, (((((w.alloc (tmCells t.head a t.args.length c)).alloc (.cells #[.slice none 0 0] 35)).alloc (.map #[] 0)).alloc (.cells #[.map (some (w.heap.size + 1 + 1))] 63)).alloc (tmCells t.head a t.args.length c)) = W3 := ⟨_, rfl⟩
  have hB3 : Below w.heap.size w W3 := by rw [← hW3]; exact (((((Below.refl _ w).alloc (Nat.le_refl _) _).alloc (by simp) _).alloc (by simp; omega) _).alloc (by simp; omega) _).alloc (by simp; omega) _
  have g1 : Boxed W3 (w.heap.size + 1) 35 (.slice none 0 0) := by rw [← hW3]; exact (((boxed_new_at (by simp) _ _).alloc _).alloc _).alloc _
  have g2 : W3.ownsMap Try.prog 3 (unitElem (H := Unit)) (w.heap.size + 1 + 1) 0 (.map []) := by
    rw [← hW3]
    have h := ((World.ownsMap_made ((w.alloc (tmCells t.head a t.args.length c)).alloc (.cells #[.slice none 0 0] 35)) Try.prog 3 (unitElem (H := Unit))).alloc (.cells #[.map (some (w.heap.size + 1 + 1))] 63)).alloc (tmCells t.head a t.args.length c)
    simpa using h
  have g3 : Boxed W3 (w.heap.size + 1 + 1 + 1) 63 (.map (some (w.heap.size + 1 + 1))) := by rw [← hW3]; exact (boxed_new_at (by simp) _ _).alloc _
  have f3 : W3.cell? ⟨w.heap.size + 1 + 1 + 1 + 1, 0, none⟩ = some (.int .i64 t.head) := by rw [← hW3]; simp [go_sem]
  have f4 : W3.cell? ⟨w.heap.size + 1 + 1 + 1 + 1, 1, none⟩ = some (.slice a t.args.length c) := by rw [← hW3]; simp [go_sem]
  have hs : W3.heap.size = w.heap.size + 5 := by rw [← hW3]; simp
  rw [hW3]
  clear hW3 hmm
  refine wpIn_rangeO rfl (by omega) (gf := 61) (lb := #[.pointer (some ⟨w.heap.size + 1 + 1 + 1 + 1, 0, none⟩)]) rfl trivial (enters_of Try.func61 (by kernel_rfl) rfl)
    (subterms_seqO Fence.wide 8 trivial rfl (by omega) t ht (w.heap.size + 1 + 1 + 1 + 1) w.heap.size a c W3 (by omega) (by omega) hwf f3 f4 (HA.out.below hB3)) (Below.refl _ _) (by omega) (fun _ _ _ _ h => h.size) (fun _ _ _ _ _ h hb => h.below hb)
    (VarI w) (fun _ _ _ => False)
    (VarI.abides w _ (by omega))
    (fun _ _ _ _ h _ => h)
    ⟨⟨_, g1, World.ownsRow_nil _ _ _ _⟩, g2, g3, by simp [varsOf], by simp [varsOf], hB3⟩
    (fun x _ a' W => ∃ Bx a1 c1, W3.heap.size ≤ Bx ∧ W.cell? ⟨Bx, 0, none⟩ = some (.int .i64 x.2.head) ∧ W.cell? ⟨Bx, 1, none⟩ = some (.slice a1 x.2.args.length c1) ∧ (Lit.int .i64 x.2.head).wf = true ∧ a' = { tmps := #[tm t.head a t.args.length c, Value.pointer (some ⟨w.heap.size, 0, none⟩), Value.slice none 0 0, Value.pointer (some ⟨w.heap.size + 1, 0, none⟩), Value.pointer (some ⟨w.heap.size + 1 + 1 + 1, 0, none⟩), undef, Value.pointer (some ⟨Bx, 0, none⟩), undef, undef, undef, Value.map (some (w.heap.size + 1 + 1)), Value.agg #[Value.int IntKind.i64 t.head, Value.slice a t.args.length c], Value.func (Fn.func 61) #[] #[Value.pointer (some ⟨w.heap.size + 1 + 1 + 1 + 1, 0, none⟩)], Value.int .i64 x.1, tm x.2.head a1 x.2.args.length c1, undef, undef, undef, undef, undef, undef, undef, undef, undef, undef, undef, undef, undef, undef, undef, undef, undef, undef, undef, undef, undef], defers := [] })
    (fun x vs a' W l o o' hl ho hoc ⟨Bx, a1, c1, h1, h2, h3, h4, h5⟩ => ⟨Bx, a1, c1, h1, cell_kept h2 (grownBy_putObj' W l o') (fun r e => by cases e; exact ⟨o, ho, hoc⟩), cell_kept h3 (grownBy_putObj' W l o') (fun r e => by cases e; exact ⟨o, ho, hoc⟩), h4, h5⟩) ?assign ?body ?done ?stop
  case assign =>
    rintro l pre x vs W K hsz hi ⟨_, hxw, a1, c1, rfl, _⟩ hK
    have hsz' : w.heap.size + 5 ≤ W.heap.size := by omega
    simp only [fold2, List.setIfInBounds_toArray, List.set]
    gi_wp2
    refine hK _ _ ((KeptO.refl _ _ _ _).alloc (by omega) _) ?_ ⟨W.heap.size, a1, c1, hsz, by simp [go_sem], by simp [go_sem], hxw, rfl⟩
    exact VarI.abides w (w.heap.size + 5) (Nat.le_refl _) _ _ _ hi (Chg.alloc _ _ W hsz' _)
  case body =>
    rintro l pre x vs a' W hsz ⟨⟨v, k1, kr⟩, km, k3, kw, kl, k6⟩ hm ⟨Bx, a1, c1, hBx, hx1, hx2, hxw, rfl⟩
    have hpl := hm.length
    clear hm
    have hz : w.heap.size + 5 ≤ W.heap.size := by omega
    have d1 := k1.cell
    have d3 := k3.cell
    have e1 := k1.frozen
    have HS := Lib.hid hs
    have K1 := Lib.hid k1
    have KR := Lib.hid kr
    have KM := Lib.hid km
    have K3 := Lib.hid k3
    have K6 := Lib.hid k6
    have KW := Lib.hid kw
    have HXW := Lib.hid hxw
    have hxl := (wf_low hxw).1
    clear hs k1 kr km k3 k6 hxw kw
    have hBl : Bx < W.heap.size := World.block_lt_of_cell? W ⟨Bx, 0, none⟩ hx1
    have hx1' : ∀ o, (W.alloc o).cell? ⟨Bx, 0, none⟩ = some (.int .i64 x.2.head) := fun o => (World.cell?_of_block (a := ⟨Bx, 0, none⟩) (Below.heap_alloc W o Bx hBl)).trans hx1
    have hx2' : ∀ o, (W.alloc o).cell? ⟨Bx, 1, none⟩ = some (.slice a1 x.2.args.length c1) := fun o => (World.cell?_of_block (a := ⟨Bx, 1, none⟩) (Below.heap_alloc W o Bx hBl)).trans hx2
    have d3' : ∀ o o', ((W.alloc o).alloc o').cell? ⟨w.heap.size + 1 + 1 + 1, 0, none⟩ = some (.map (some (w.heap.size + 1 + 1))) := fun o o' => ((K3.out.alloc o).alloc o').cell
    have d3'' : ∀ o o' o'', (((W.alloc o).alloc o').alloc o'').cell? ⟨w.heap.size + 1 + 1 + 1, 0, none⟩ = some (.map (some (w.heap.size + 1 + 1))) := fun o o' o'' => (((K3.out.alloc o).alloc o').alloc o'').cell
    by_cases hneg : x.2.head < 0
    · have hdn : decide (x.2.head < 0) = true := by simpa using hneg
      have hkw : (Lit.int .i64 (-1 - x.2.head)).wf = true := WalkArith.wf_i64 (by omega)
      have HKW := Lib.hid hkw
      clear hkw
      obtain ⟨i0, hi, hz0, hz1, hz2⟩ := info_parts info3
      cases hct : (varsOf pre).contains (-1 - x.2.head)
      · have hhas := has_ints (varsOf pre) (-1 - x.2.head)
        rw [hct] at hhas
        have HCT := Lib.hid hct
        clear hct
        gi_wp2_with (first
          | (refine ⟨trivial, ?_⟩; gi_at_call 35; go_must (refine (CallsIn.inRound l (callsIn_wide.2 (isVariable_any _ _ _ _ _))).mono ?_); rintro e w2 ⟨rfl, rfl⟩)
          | (refine ⟨trivial, ?_⟩; gi_at_call 36; go_must (refine (CallsIn.inRound l (callsIn_wide.2 (variable_any _ _ _ _ _ hxl hneg))).mono ?_); rintro e w2 ⟨rfl, rfl⟩)
          | (gi_at_lookup; go_must (refine wpListIn_lookup_own_unit _ rfl _ _ 63 rfl 3 69 (Maps.int_keyed Try.underlying3) Try.underlying63 (Try.zeroValue69 _) (w.heap.size + 1 + 1) (varsOf pre).length _ rfl ((KM.out.alloc _).alloc _) _ _ rfl (Maps.keyOf_int_mk Try.underlying3 HKW.out) ?_))
          | (gi_at_mapUpdate; refine stopHere ?_))
        refine Lib.hid ?_
        refine wpListIn_mapUpdate_own _ rfl _ _ _ 63 rfl 3 69 (Maps.int_keyed Try.underlying3) Try.underlying63 _ (w.heap.size + 1 + 1) (varsOf pre).length _ rfl (((KM.out.alloc _).alloc _).alloc _) (by unfold maxLen; omega) _ _ _ rfl rfl (Maps.keyOf_int_mk Try.underlying3 HKW.out) (.agg []) [] unitElem_mk ?_
        intro w1 hown1 hgrow1
        have b1 := (((K1.out.alloc (tmCells x.2.head a1 x.2.args.length c1)).alloc (tmCells x.2.head a1 x.2.args.length c1)).alloc (.cells #[] 69)).kept hgrow1 (by simp)
        have r1 := (((KR.out.alloc (tmCells x.2.head a1 x.2.args.length c1)).alloc (tmCells x.2.head a1 x.2.args.length c1)).alloc (.cells #[] 69)).kept hgrow1 (row_not_map KM.out KR.out)
        have dd1 := b1.cell
        have ss1 : W.heap.size + 3 ≤ w1.heap.size := by have := hgrow1.size; simpa using this
        have B1 := Lib.hid b1
        have R1 := Lib.hid r1
        have O1 := Lib.hid hown1
        have G1 := Lib.hid hgrow1
        clear b1 r1 hown1 hgrow1
        gi_wp2_with (gi_at_builtin; refine stopHere ?_)
        refine Lib.hid ?_
        refine wpListIn_append_own _ rfl _ _ 35 rfl w.heap.size 3 i0 (.int .i64 0) 1 8 Try.underlying35 hi hz0 hz1 hz2 rfl (by decide) v (varsOf pre).length _ rfl (R1.out.alloc _) ⟨w1.heap.size, 0, none⟩ 1 1 [.int .i64 (-1 - x.2.head)] rfl rfl (cell_one_at _ _ _ _ rfl) (by simp [Value.oneCell']) (by unfold maxLen; omega) (by omega) (by simp; omega) ?_
        intro v' w2 hown2 hgrow2 _
        obtain ⟨g', cap', rfl⟩ := ownsRow_succ hown2
        have b2 := (B1.out.alloc _).kept hgrow2 (B1.out.not_row (by decide) R1.out)
        have dd2 := b2.cell
        have ee2 := b2.frozen
        have B2 := Lib.hid b2
        have O2 := Lib.hid hown2
        have G2 := Lib.hid hgrow2
        clear b2 hown2 hgrow2
        gi_wp2
        have hv : varsOf (pre ++ [x]) = varsOf pre ++ [-1 - x.2.head] := by rw [varsOf_snoc, varStep, if_pos (by omega), HCT.out]; rfl
        have hrow : ∀ k, v.ownBlock = some k → w.heap.size ≤ k ∧ (k < W3.heap.size ∨ ∃ cs e fz, W.heap[k]? = some (Obj.cells cs e fz) ∧ subOwn e = false) := by
          intro k hk
          obtain ⟨cs, fz, h⟩ := Lib.ownsRow_kind KR.out k hk
          exact ⟨(KR.out.lt k hk).1, .inr ⟨cs, _, fz, h, rfl⟩⟩
        have b3 := B2.out.set (.slice (some ⟨g', 0, none⟩) ((varsOf pre).length + 1) cap')
        have r3 := O2.out.kept (grownBy_setCell' w2 (w.heap.size + 1) (.slice (some ⟨g', 0, none⟩) ((varsOf pre).length + 1) cap')) (.inr (B2.out.not_row (by decide) O2.out).symm)
        have m2 := (O1.out.alloc (.cells #[.int .i64 (-1 - x.2.head)] 3)).kept G2.out (fun e => by
          rcases row_not_map KM.out KR.out with h | h
          · rw [h] at e; cases e
          · exact h e.symm)
        have m3 := m2.kept (grownBy_setCell' w2 (w.heap.size + 1) (.slice (some ⟨g', 0, none⟩) ((varsOf pre).length + 1) cap')) (by simp)
        have q1 := (((K3.out.alloc (tmCells x.2.head a1 x.2.args.length c1)).alloc (tmCells x.2.head a1 x.2.args.length c1)).alloc (.cells #[] 69)).kept G1.out (by simp)
        have q2 := (q1.alloc (.cells #[.int .i64 (-1 - x.2.head)] 3)).kept G2.out (q1.not_row (by decide) R1.out)
        have q3 := boxed_other q2 (B' := w.heap.size + 1) (by omega) 0 (.slice (some ⟨g', 0, none⟩) ((varsOf pre).length + 1) cap')
        have kk : KeptO w.heap.size W3.heap.size subOwn W (w2.setCell ⟨w.heap.size + 1, 0, none⟩ (.slice (some ⟨g', 0, none⟩) ((varsOf pre).length + 1) cap')) := by
          refine (((((((KeptO.refl _ _ _ _).alloc (by omega) _).alloc (by omega) _).alloc (by omega) _).grown G1.out (by simp; omega) ?_).alloc (by omega) _).grown G2.out (by simp; omega) hrow).setCell (p := ⟨w.heap.size + 1, 0, none⟩) (by simp) (by have := HS.out; simp; omega) _
          intro k e; cases e; exact ⟨by omega, .inl (by have := HS.out; omega)⟩
        refine ⟨kk, ⟨_, b3, ?_⟩, ?_, q3, ?_, ?_, K6.out.trans kk.1⟩
        · rw [hv]; simpa using r3
        · rw [hv]; simpa [Maps.setOf_snoc] using m3
        · rw [hv]
          intro z hz
          rcases List.mem_append.1 hz with h | h
          · exact KW.out z h
          · obtain rfl := List.mem_singleton.1 h; exact HKW.out
        · rw [hv]; simp; exact kl
      · have hhas := has_ints (varsOf pre) (-1 - x.2.head)
        rw [hct] at hhas
        have HCT := Lib.hid hct
        clear hct
        gi_wp2_with (first
          | (refine ⟨trivial, ?_⟩; gi_at_call 35; go_must (refine (CallsIn.inRound l (callsIn_wide.2 (isVariable_any _ _ _ _ _))).mono ?_); rintro e w2 ⟨rfl, rfl⟩)
          | (refine ⟨trivial, ?_⟩; gi_at_call 36; go_must (refine (CallsIn.inRound l (callsIn_wide.2 (variable_any _ _ _ _ _ hxl hneg))).mono ?_); rintro e w2 ⟨rfl, rfl⟩)
          | (gi_at_lookup; go_must (refine wpListIn_lookup_own_unit _ rfl _ _ 63 rfl 3 69 (Maps.int_keyed Try.underlying3) Try.underlying63 (Try.zeroValue69 _) (w.heap.size + 1 + 1) (varsOf pre).length _ rfl ((KM.out.alloc _).alloc _) _ _ rfl (Maps.keyOf_int_mk Try.underlying3 HKW.out) ?_)))
        have hv : varsOf (pre ++ [x]) = varsOf pre := by rw [varsOf_snoc, varStep, if_pos (by omega), HCT.out]; rfl
        refine ⟨(((KeptO.refl _ _ _ _).alloc (by omega) _).alloc (by omega) _).alloc (by omega) _, ?_⟩
        have hi := VarI.abides w (w.heap.size + 5) (Nat.le_refl _) _ _ _ ⟨⟨v, K1.out, KR.out⟩, KM.out, K3.out, KW.out, kl, K6.out⟩ (((Chg.alloc _ _ W hz (tmCells x.2.head a1 x.2.args.length c1)).trans (Chg.alloc _ _ _ (by simp; omega) (tmCells x.2.head a1 x.2.args.length c1))).trans (Chg.alloc _ _ _ (by simp; omega) (.cells #[] 69)))
        obtain ⟨q1, q2, q3, q4, q5, q6⟩ := hi
        exact ⟨by rw [hv]; exact q1, by rw [hv]; exact q2, q3, by rw [hv]; exact q4, by rw [hv]; simp; omega, q6⟩
    · have hdn : decide (x.2.head < 0) = false := by simpa using hneg
      gi_wp2_with (refine ⟨trivial, ?_⟩; gi_at_call 35; go_must (refine (CallsIn.inRound l (callsIn_wide.2 (isVariable_any _ _ _ _ _))).mono ?_); rintro e w2 ⟨rfl, rfl⟩)
      have hv : varsOf (pre ++ [x]) = varsOf pre := by rw [varsOf_snoc, varStep, if_neg (by omega)]
      refine ⟨(KeptO.refl _ _ _ _).alloc (by omega) _, ?_⟩
      have hi : VarI w pre (W.alloc (tmCells x.2.head a1 x.2.args.length c1)) := VarI.abides w (w.heap.size + 5) (Nat.le_refl _) _ _ _ ⟨⟨v, K1.out, KR.out⟩, KM.out, K3.out, KW.out, kl, K6.out⟩ (Chg.alloc _ _ W hz _)
      obtain ⟨q1, q2, q3, q4, q5, q6⟩ := hi
      exact ⟨by rw [hv]; exact q1, by rw [hv]; exact q2, q3, by rw [hv]; exact q4, by rw [hv]; simp; omega, q6⟩
  case done =>
    rintro D xs W hD rfl ⟨⟨v, k1, kr⟩, km, k3, kw, kl, k6⟩ hK
    have d1 := k1.cell
    gi_wp2
    refine ⟨by simp, .inl ⟨_, _, rfl, run_takeDeferred hK, ?_⟩⟩
    refine ⟨_, results_tmp rfl _ _ _, v, rfl, ?_, k6.trans (below_putObj _ hK (by omega))⟩
    have hr := ownsRow_putObj kr (.deferred none) hK rfl
    rcases hr.2 with ⟨rfl, h0⟩ | ⟨g, cap, cur, rfl, hg, hh, hn, hc, r⟩
    · exact .inl ⟨rfl, List.eq_nil_of_length_eq_zero h0⟩
    · refine .inr ⟨g, cap, rfl, (Array.getElem?_eq_some_iff.1 hh).1, hn, hc, fun j z hz => ?_⟩
      have hj : j < (varsOf (T.subs 1 t)).length := (List.getElem?_eq_some_iff.1 hz).1
      rw [hr.cellAt j (by omega), List.getElem?_map, hz]; rfl
  case stop =>
    rintro D c pre W _ _ h _
    exact h.elim

end Go.Proofs.Ytbfanbaijombaaa
