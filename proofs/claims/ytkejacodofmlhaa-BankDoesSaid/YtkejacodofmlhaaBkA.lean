/- Contract of the bank's add. -/
import Derived.Test.YtkejacodofmlhaaBk
import Derived.Deep.QuietTactic
import Derived.BigQuiet
import Derived.WalkSmall
import Derived.StillTailTactics
namespace Go.Proofs.Ytkejacodofmlhaa
set_option linter.unusedVariables false
set_option linter.unusedSimpArgs false
open Go.RowKit Go.Maps

theorem infoRow : (Try.prog.info? 109).map (fun i => (i.zero, i.size, i.bytes)) = some (some (.agg #[.int .i64 0, .int .i64 0, .int .i64 0, .int .i64 0, .int .i64 0, .int .i64 0, .int .i64 0, .int .i64 0, .int .i64 0, .int .i64 0]), 10, 80) := by kernel_rfl

set_option maxRecDepth 100000 in
set_option maxHeartbeats 4000000 in
theorem add_any (rs : List (List Int)) (r : List Int) (hr : RwOk r) (B Tb M : Nat) (sv : Value) (w : World) (hB : B ≤ w.heap.size) (hG : IsK B Tb w sv M rs) :
    Calls Try.prog 59 #[.pointer (some ⟨Tb, 0, none⟩), rowV r] w (KPost B Tb M sv (addR rs r) w) := by
  have HR := Lib.hid hr
  obtain ⟨z0, z1, z2, z3, z4, z5, z6, z7, z8, z9, rfl⟩ := ten hr.1
  obtain ⟨w1, hw1⟩ : ∃ w1, w.alloc (.cells #[.int .i64 z0, .int .i64 z1, .int .i64 z2, .int .i64 z3, .int .i64 z4, .int .i64 z5, .int .i64 z6, .int .i64 z7, .int .i64 z8, .int .i64 z9] 109) = w1 := ⟨_, rfl⟩
  have hb1 : Below w.heap.size w w1 := by rw [← hw1]; exact (Below.refl _ _).alloc (Nat.le_refl _) _
  have hz1 : w1.heap.size = w.heap.size + 1 := by rw [← hw1]; simp
  have hG1 := hG.later hb1
  have hbk : w1.heap[w.heap.size]? = some (.cells #[.int .i64 z0, .int .i64 z1, .int .i64 z2, .int .i64 z3, .int .i64 z4, .int .i64 z5, .int .i64 z6, .int .i64 z7, .int .i64 z8, .int .i64 z9] 109 (0, 0)) := by rw [← hw1]; exact heap_alloc_new w _
  have c0 : w1.cell? ⟨w.heap.size, 0, none⟩ = some (.int .i64 z0) := by simp [World.cell?, hbk]
  have c1 : w1.cell? ⟨w.heap.size, 1, none⟩ = some (.int .i64 z1) := by simp [World.cell?, hbk]
  have c2 : w1.cell? ⟨w.heap.size, 2, none⟩ = some (.int .i64 z2) := by simp [World.cell?, hbk]
  have c3 : w1.cell? ⟨w.heap.size, 3, none⟩ = some (.int .i64 z3) := by simp [World.cell?, hbk]
  have c4 : w1.cell? ⟨w.heap.size, 4, none⟩ = some (.int .i64 z4) := by simp [World.cell?, hbk]
  have c5 : w1.cell? ⟨w.heap.size, 5, none⟩ = some (.int .i64 z5) := by simp [World.cell?, hbk]
  have c6 : w1.cell? ⟨w.heap.size, 6, none⟩ = some (.int .i64 z6) := by simp [World.cell?, hbk]
  have c7 : w1.cell? ⟨w.heap.size, 7, none⟩ = some (.int .i64 z7) := by simp [World.cell?, hbk]
  have c8 : w1.cell? ⟨w.heap.size, 8, none⟩ = some (.int .i64 z8) := by simp [World.cell?, hbk]
  have c9 : w1.cell? ⟨w.heap.size, 9, none⟩ = some (.int .i64 z9) := by simp [World.cell?, hbk]
  have HD1 := Lib.hid (below_drewN hb1)
  have HG := Lib.hid hG
  have hgl := hG1.lt
  have g0 : w1.cell? ⟨Tb, 0, none⟩ = some sv := by simp [World.cell?, hG1.heap]
  have g1 : w1.cell? ⟨Tb, 1, none⟩ = some (.map (some M)) := by simp [World.cell?, hG1.heap]
  have gf : w1.frozen? ⟨Tb, 0, none⟩ = false := by simp [World.frozen?, hG1.heap]
  have hlk := fun n => (show MapK (w1.drewN n) M rs from hG1.map.kept (by simp)).look hr
  simp only [rowV, rowVals, List.map] at hlk ⊢
  have HG1 := Lib.hid hG1
  by_cases hin : [z0, z1, z2, z3, z4, z5, z6, z7, z8, z9] ∈ rs
  · simp only [if_pos hin, decide_eq_true hin] at hlk
    have HP := Lib.hid (fun n => show KPost B Tb M sv (addR rs [z0, z1, z2, z3, z4, z5, z6, z7, z8, z9]) w (.returned (.tuple #[.int .i64 ((rs.idxOf [z0, z1, z2, z3, z4, z5, z6, z7, z8, z9] : Nat) : Int), .int .i64 0])) (w1.drewN n) from by
      unfold addR
      rw [if_pos hin]
      exact ⟨rfl, sv, HG.out.later (HD1.out n), KStep.later (HD1.out n)⟩)
    generalize rs.idxOf [z0, z1, z2, z3, z4, z5, z6, z7, z8, z9] = q at *
    clear hG hG1 hb1 hin hr hz1 hbk
    go_enter Try.func59, Try.ntmps59
    go_wp2
    go_quiet (fail)
    go_wp2
    go_ret2
    exact HP.out _
  · simp only [if_neg hin, decide_eq_false hin] at hlk
    have hl4 := hG.few
    obtain ⟨xs, hxs⟩ : ∃ xs, rs.flatMap rowVals = xs := ⟨_, rfl⟩
    have hrow := hG1.rows
    obtain ⟨sa, sc, rfl⟩ : ∃ sa sc, sv = .slice sa rs.length sc := by
      rcases hrow.2 with ⟨h, h0⟩ | ⟨g, cap, cur, h, _⟩
      · exact ⟨none, 0, by rw [h, h0]⟩
      · exact ⟨_, _, h⟩
    by_cases hfull : 4096 ≤ rs.length
    · have hfi : decide ((4096 : Int) ≤ (rs.length : Int)) = true := by simp; omega
      have HP := Lib.hid (fun n => show KPost B Tb M (.slice sa rs.length sc) (addR rs [z0, z1, z2, z3, z4, z5, z6, z7, z8, z9]) w (.returned (.tuple #[.int .i64 0, .int .i64 9])) (w1.drewN n) from by
        unfold addR
        rw [if_neg hin, if_pos hfull]
        exact ⟨rfl, _, HG.out.later (HD1.out n), KStep.later (HD1.out n)⟩)
      clear hG hG1 hb1 hin hr hz1 hbk hrow
      go_enter Try.func59, Try.ntmps59
      go_wp2
      go_quiet (fail)
      go_wp2
      go_ret2
      exact HP.out _
    · have hfi : decide ((4096 : Int) ≤ (rs.length : Int)) = false := by simp; omega
      have hMne := hG1.m_ne
      have hsg := hG1.sv_ne
      have LW := Lib.hid (show ∀ W, w1.grownBy W (some M) → W.cell? ⟨Tb, 0, none⟩ = some (.slice sa rs.length sc) ∧ W.cell? ⟨Tb, 1, none⟩ = some (.map (some M)) ∧ W.frozen? ⟨Tb, 0, none⟩ = false ∧ W.cell? ⟨w.heap.size, 0, none⟩ = some (.int .i64 z0) ∧ W.cell? ⟨w.heap.size, 1, none⟩ = some (.int .i64 z1) ∧ W.cell? ⟨w.heap.size, 2, none⟩ = some (.int .i64 z2) ∧ W.cell? ⟨w.heap.size, 3, none⟩ = some (.int .i64 z3) ∧ W.cell? ⟨w.heap.size, 4, none⟩ = some (.int .i64 z4) ∧ W.cell? ⟨w.heap.size, 5, none⟩ = some (.int .i64 z5) ∧ W.cell? ⟨w.heap.size, 6, none⟩ = some (.int .i64 z6) ∧ W.cell? ⟨w.heap.size, 7, none⟩ = some (.int .i64 z7) ∧ W.cell? ⟨w.heap.size, 8, none⟩ = some (.int .i64 z8) ∧ W.cell? ⟨w.heap.size, 9, none⟩ = some (.int .i64 z9) from fun W hW => by
        have hTb : W.heap[Tb]? = w1.heap[Tb]? := hW.block Tb hgl (fun e => hMne (Option.some.inj e).symm)
        have hBx : W.heap[w.heap.size]? = w1.heap[w.heap.size]? := hW.block _ (by omega) (fun e => by have := Option.some.inj e; have := HG.out.map.lt; omega)
        refine ⟨(Mm.cell_of_block (a := ⟨Tb, 0, none⟩) hTb).trans g0, (Mm.cell_of_block (a := ⟨Tb, 1, none⟩) hTb).trans g1, (Mm.frozen_of_block (a := ⟨Tb, 0, none⟩) hTb).trans gf, ?_⟩
        rw [hbk] at hBx
        refine ⟨?_, ?_, ?_, ?_, ?_, ?_, ?_, ?_, ?_, ?_⟩ <;> simp [World.cell?, hBx])
      have HIN := Lib.hid hin
      obtain ⟨i0, hi, hz0, hzz, hz2⟩ := info_parts infoRow
      have HZ1 := Lib.hid hz1
      have HB1 := Lib.hid hb1
      clear hG hG1 hb1 hin hr hz1 hbk hrow
      go_enter Try.func59, Try.ntmps59
      go_wp2
      go_quiet (fail)
      go_wp2
      have hbq := below_drewN (Below.refl w1.heap.size w1) nq
      generalize w1.drewN nq = w2 at hbq ⊢
      have hgw2 : w1.grownBy w2 (some M) := ⟨hbq.os, hbq.tape, hbq.output, hbq.size, fun k hk _ => hbq.block k hk⟩
      have HBQ := Lib.hid hbq
      have HW2 := Lib.hid hgw2
      clear hbq
      obtain ⟨e0, e1, e2, d0, d1, d2, d3, d4, d5, d6, d7, d8, d9⟩ := LW.out w2 hgw2
      clear hgw2 hlk g0 g1 gf c0 c1 c2 c3 c4 c5 c6 c7 c8 c9
      go_still_tail 6, (by kernel_rfl)
      change wpList _ _ _ _ _ w2.drew
      obtain ⟨w3, hup, hM3, hg3⟩ := ((HG1.out.map.kept (W' := w2.drew) (show w2.heap[M]? = w1.heap[M]? from HBQ.out.block M HG1.out.map.lt))).put HR.out HIN.out (by omega)
      simp only [rowV, rowVals, List.map] at hup
      go_wp2
      clear hup e0 e1 e2 d0 d1 d2 d3 d4 d5 d6 d7 d8 d9
      have hg3' : w1.grownBy w3 (some M) := Mm.grownBy_trans HW2.out (show w2.grownBy w3 (some M) from ⟨hg3.os, hg3.tape, hg3.output, hg3.size, hg3.block⟩)
      obtain ⟨e0, e1, e2, d0, d1, d2, d3, d4, d5, d6, d7, d8, d9⟩ := LW.out w3 hg3'
      have hgl3 : Tb < w3.heap.size := Nat.lt_of_lt_of_le hgl hg3'.size
      have hbx3 : w.heap.size < w3.heap.size := Nat.lt_of_lt_of_le (by have := HZ1.out; omega) hg3'.size
      have hr3 : w3.ownsRow B 109 10 (.slice sa rs.length sc) rs.length (rs.flatMap rowVals) := Mm.ownsRow_kept HG1.out.rows (fun b hb => hg3'.block b (Mm.rowBlock HG1.out.rows hb).2.1 (fun e => HG1.out.svm_ne (hb.trans e)))
      rw [hxs] at hr3
      have HM3 := Lib.hid hM3
      have HG3 := Lib.hid hg3'
      have hB3 : B ≤ w3.heap.size := by have := HB1.out.size; have := hg3'.size; omega
      clear hM3 hg3 hg3' e1
      have gd : ∀ ob, (w3.drew.alloc ob).cell? ⟨Tb, 0, none⟩ = some (.slice sa rs.length sc) := fun ob => (World.cell?_of_block (a := ⟨Tb, 0, none⟩) (Below.heap_alloc w3.drew ob _ hgl3)).trans e0
      have gfd : ∀ ob, (w3.drew.alloc ob).frozen? ⟨Tb, 0, none⟩ = false := fun ob => (Mm.frozen_of_block (a := ⟨Tb, 0, none⟩) (Below.heap_alloc w3.drew ob _ hgl3)).trans e2
      go_region_law (first
        | (refine step_append_lies _ (by rfl) _ _ _ (by rfl) B 109 i0 _ 10 80 Try.underlying72 hi hz0 hzz hz2 rfl (by omega) (.slice sa rs.length sc) rs.length xs (by rfl) ((show w3.drew.ownsRow B 109 10 (.slice sa rs.length sc) rs.length xs from hr3).alloc _)
            ⟨w3.heap.size, 0, none⟩ 1 1 [.int .i64 z0, .int .i64 z1, .int .i64 z2, .int .i64 z3, .int .i64 z4, .int .i64 z5, .int .i64 z6, .int .i64 z7, .int .i64 z8, .int .i64 z9] (by rfl) (by rfl) (World.news_of_block (cs := #[.int .i64 z0, .int .i64 z1, .int .i64 z2, .int .i64 z3, .int .i64 z4, .int .i64 z5, .int .i64 z6, .int .i64 z7, .int .i64 z8, .int .i64 z9]) (t := 109) (fr := (0, 0)) (heap_alloc_new w3.drew _)) (by simp [Value.oneCell'])
            (by omega) (by unfold maxLen; omega) (by omega) (by simp; omega) (w3.heap.size + 1) (by simp) ?_; intro g5 cap5 w5 hown5 hgrow5 hat5 hlt5; have ho5 : w5.cell? ⟨Tb, 0, none⟩ = some (.slice sa rs.length sc) := (Mm.cell_grown hgrow5 (p := ⟨Tb, 0, none⟩) (by simp; omega) (fun e => hsg e.symm)).trans (gd _); have hf5 : w5.frozen? ⟨Tb, 0, none⟩ = false := (Mm.frozen_grown hgrow5 (p := ⟨Tb, 0, none⟩) (by simp; omega) (fun e => hsg e.symm)).trans (gfd _)))
      all_goals
        have hst := add_step HG1.out HR.out (by omega) HG3.out HM3.out hgrow5 (by rw [hxs]; exact hown5) hat5
        have HP := Lib.hid (show KPost B Tb M (.slice sa rs.length sc) (addR rs [z0, z1, z2, z3, z4, z5, z6, z7, z8, z9]) w (.returned (.tuple #[.int .i64 ((rs.length : Nat) : Int), .int .i64 0])) (w5.setCell ⟨Tb, 0, none⟩ (.slice (some ⟨g5, 0, none⟩) (rs.length + 1) cap5)) from by
          unfold addR
          rw [if_neg HIN.out, if_neg hfull]
          exact ⟨rfl, _, hst.1, (KStep.later HB1.out).trans hst.2⟩)
        have hw5 : Tb < w5.heap.size := by have := hgrow5.size; simp at this; omega
        clear hst hown5 hgrow5 hat5
        go_wp2
        go_ret2
        exact HP.out

end Go.Proofs.Ytkejacodofmlhaa
