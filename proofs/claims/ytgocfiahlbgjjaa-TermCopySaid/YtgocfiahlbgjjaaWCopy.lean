/- The walk of TermCopy. -/
import Derived.Test.YtgocfiahlbgjjaaCopy
import Derived.Test.YtgocfiahlbgjjaaRCopy
import Derived.Test.YtgocfiahlbgjjaaCount
import Derived.Test.YtgocfiahlbgjjaaSame
import Derived.Test.YtgocfiahlbgjjaaRef
import Derived.Test.YtgocfiahlbgjjaaOrd
import Derived.StillTailTactics
namespace Go.Proofs.Ytgocfiahlbgjjaa
set_option linter.unusedVariables false
set_option linter.unusedSimpArgs false
open Go.RowKit

theorem setCell_some {w : World} {a b : Addr} {u v : Value} (h : w.cell? b = some v) : ∃ v', (w.setCell a u).cell? b = some v' := by
  by_cases e : a = b
  · subst e; exact ⟨u, World.cell?_setCell_same' _ _ _ (by rw [h]; rfl)⟩
  · exact ⟨v, by rw [World.cell?_setCell_other _ _ _ _ e]; exact h⟩

set_option maxRecDepth 100000 in
set_option maxHeartbeats 4000000 in
theorem termCopy_walk (t : T) (a : Option Addr) (c : Nat) (w : World) (hwf : (Lit.int .i64 t.head).wf = true) (hA : IsArgs w.heap.size w t.args a c) :
    Calls Try.prog 6 #[tm t.head a t.args.length c] w fun e w' => e = .returned (.bool true) ∧ Below w.heap.size w w' := by
  have HWF := Lib.hid hwf
  have HA := Lib.hid hA
  clear hwf hA
  have hb1 : Below w.heap.size w (w.alloc (tmCells t.head a t.args.length c)) := (Below.refl _ w).alloc (Nat.le_refl _) _
  have x1 : (w.alloc (tmCells t.head a t.args.length c)).cell? ⟨w.heap.size, 0, none⟩ = some (.int .i64 t.head) := by simp [go_sem]
  have x2 : (w.alloc (tmCells t.head a t.args.length c)).cell? ⟨w.heap.size, 1, none⟩ = some (.slice a t.args.length c) := by simp [go_sem]
  have hs1 : (w.alloc (tmCells t.head a t.args.length c)).heap.size = w.heap.size + 1 := by simp
  have E1 := Lib.hid (And.intro hb1 (And.intro x1 (And.intro x2 hs1)))
  clear hb1 x1 x2 hs1
  go_enter Try.func6, Try.ntmps6
  go_wp2_with fail
  generalize w.alloc (tmCells t.head a t.args.length c) = w1 at E1 ⊢
  obtain ⟨hb1, x1, x2, hs1⟩ := E1.out
  refine (few_any t w.heap.size a c w1 hb1.size (HA.out.below hb1)).mono ?_
  rintro e w2 ⟨rfl, hb2⟩
  have hb12 := hb1.trans (hb2.mono hb1.size)
  by_cases hx : t.size ≤ 500
  case neg =>
    rw [show decide (t.size ≤ 500) = false from by simpa using hx]
    have HQ := Lib.hid hb12
    clear hb12 hb2 hb1 x1 x2 hs1 E1
    go_wp2
    go_ret
    exact ⟨rfl, HQ.out⟩
  rw [show decide (t.size ≤ 500) = true from by simpa using hx]
  have X1 := Lib.hid x1
  have X2 := Lib.hid x2
  have y1 := (hb2.cell (p := ⟨w.heap.size, 0, none⟩) (by rw [hs1]; simp)).trans x1
  have y2 := (hb2.cell (p := ⟨w.heap.size, 1, none⟩) (by rw [hs1]; simp)).trans x2
  have B12 := Lib.hid hb12
  have hz2 : w.heap.size + 1 ≤ w2.heap.size := by have := hb2.size; omega
  clear x1 x2 hb1 hb2 hb12 hs1 E1 X1 X2
  go_wp2_with fail
  refine (refCopy_any t.size t (Nat.le_refl _) (by omega) w.heap.size a c w2 (by omega) HWF.out (HA.out.below B12.out)).mono ?_
  rintro e w3 ⟨a2, c2, rfl, hI3, hb3⟩
  have y1' := (hb3.cell (p := ⟨w.heap.size, 0, none⟩) (by simp; omega)).trans y1
  have y2' := (hb3.cell (p := ⟨w.heap.size, 1, none⟩) (by simp; omega)).trans y2
  have hz3 := hb3.size
  have hb13 := B12.out.trans (hb3.mono B12.out.size)
  have hI3' : IsArgs w3.heap.size w3 t.args a2 c2 := hI3.toArgs (fun b hb => hb.2)
  have B13 := Lib.hid hb13
  have I3 := Lib.hid hI3'
  have Y1 := Lib.hid y1'
  have Y2 := Lib.hid y2'
  clear y1 y2 hI3 hb3 hb13 hI3' B12
  have E3 := Lib.hid (show ∀ W, Below (w3.alloc (tmCells t.head a2 t.args.length c2)).heap.size (w3.alloc (tmCells t.head a2 t.args.length c2)) W → W.cell? ⟨w.heap.size, 0, none⟩ = some (.int .i64 t.head) ∧ W.cell? ⟨w.heap.size, 1, none⟩ = some (.slice a t.args.length c) ∧ W.cell? ⟨w3.heap.size, 0, none⟩ = some (.int .i64 t.head) ∧ W.cell? ⟨w3.heap.size, 1, none⟩ = some (.slice a2 t.args.length c2) ∧ Below w.heap.size w W from fun W hW =>
    ⟨(hW.cell (p := ⟨w.heap.size, 0, none⟩) (by simp; omega)).trans ((World.cell?_of_block (a := ⟨w.heap.size, 0, none⟩) (Below.heap_alloc _ _ _ (by simp; omega))).trans Y1.out), (hW.cell (p := ⟨w.heap.size, 1, none⟩) (by simp; omega)).trans ((World.cell?_of_block (a := ⟨w.heap.size, 1, none⟩) (Below.heap_alloc _ _ _ (by simp; omega))).trans Y2.out),
      (hW.cell (p := ⟨w3.heap.size, 0, none⟩) (by simp)).trans (by simp [go_sem]), (hW.cell (p := ⟨w3.heap.size, 1, none⟩) (by simp)).trans (by simp [go_sem]), (B13.out.alloc B13.out.size _).trans (hW.mono (by simp; omega))⟩)
  have I3' := Lib.hid (show IsArgs (w3.alloc (tmCells t.head a2 t.args.length c2)).heap.size (w3.alloc (tmCells t.head a2 t.args.length c2)) t.args a2 c2 from (I3.out.below ((Below.refl _ _).alloc (Nat.le_refl _) _)).mono (by simp))
  have hzs : w3.heap.size + 1 = (w3.alloc (tmCells t.head a2 t.args.length c2)).heap.size := by simp
  obtain ⟨z1, z2, _, _, _⟩ := E3.out _ (Below.refl _ _)
  clear y1' y2'
  go_wp2_with fail
  clear z1 z2
  generalize w3.alloc (tmCells t.head a2 t.args.length c2) = wk at E3 I3' hzs ⊢
  have E := E3
  clear E3 I3 B13 Y1 Y2
  have cS : ∀ W, Below wk.heap.size wk W → Calls Try.prog 15 #[tm t.head a t.args.length c, tm t.head a2 t.args.length c2] W fun e w' => e = .returned (.bool true) ∧ Below W.heap.size W w' := fun W hW => by
    have hq := (E.out W hW).2.2.2.2
    refine (refSame_any t t (by omega) (by omega) wk.heap.size a c a2 c2 W hW.size ((HA.out.below hq).mono (by omega)) (I3'.out.below hW)).mono fun e w' hh => ⟨?_, hh.2⟩
    rw [hh.1, T.cmp_self]; rfl
  have CS := Lib.hid cS
  clear cS
  refine (copy_any t (by omega) w.heap.size a c wk (by omega) HWF.out (HA.out.below (E.out wk (Below.refl _ _)).2.2.2.2)).mono ?_
  rintro e w4 ⟨a3, c3, rfl, hI4, hb4⟩
  have hw6 := hb4.alloc hb4.size (tmCells t.head a3 t.args.length c3)
  have hz4 := hb4.size
  by_cases hl : t.args.length = 0
  · have hl2 : ¬ 0 < t.args.length := by omega
    clear hl hI4 hb4
    have HW6 := Lib.hid hw6
    obtain ⟨t1, t2, k1, k2, hq6⟩ := E.out _ hw6
    clear hw6
    go_wp2_with fail
    refine (awake_any _).mono ?_
    rintro e w7 ⟨rfl, hb7⟩
    have hw7 := HW6.out.trans (hb7.mono HW6.out.size)
    clear t1 t2 k1 k2 hb7 HW6
    obtain ⟨t1, t2, k1, k2, hq7⟩ := E.out w7 hw7
    have HQ7 := Lib.hid hq7
    have CS7 := Lib.hid (CS.out w7 hw7)
    clear hq6 hq7 hw7
    go_wp2_with fail
    refine CS7.out.mono ?_
    rintro e w8 ⟨rfl, hb8⟩
    have HW8 := Lib.hid (HQ7.out.trans (hb8.mono HQ7.out.size))
    clear hb8 t1 t2 k1 k2
    go_wp2
    go_ret
    exact ⟨rfl, HW8.out⟩
  · have hl2 : 0 < t.args.length := by omega
    have hI4' := hI4
    obtain ⟨hi1, hi2, hi3⟩ := hI4
    rcases hi3 with hi3 | ⟨g, o, rfl, hg, hrow⟩
    · exact absurd (by rw [hi3]; rfl) hl
    obtain ⟨x, hx0⟩ : ∃ x, t.args[0]? = some x := ⟨_, List.getElem?_eq_getElem hl2⟩
    have hxt : IsTp (fun b => wk.heap.size ≤ b ∧ Blk w4 b) w4 x g o := by
      cases hta : t.args with
      | nil => rw [hta] at hl2; simp at hl2
      | cons y ys => rw [hta] at hx0 hrow; simp at hx0; subst hx0; simp only [IsRowp] at hrow; exact hrow.1
    obtain ⟨_, g1, a5, c5, g2, hx5⟩ := isTp_iff.1 hxt
    have hgl := hg.2.lt
    have gz1 : (w4.alloc (tmCells t.head (some ⟨g, o, none⟩) t.args.length c3)).cell? ⟨g, o, none⟩ = some (.int .i64 x.head) := (World.cell?_of_block (a := ⟨g, o, none⟩) (Below.heap_alloc _ _ _ hgl)).trans g1
    have gz2 : (w4.alloc (tmCells t.head (some ⟨g, o, none⟩) t.args.length c3)).cell? ⟨g, o + 1, none⟩ = some (.slice a5 x.args.length c5) := (World.cell?_of_block (a := ⟨g, o + 1, none⟩) (Below.heap_alloc _ _ _ hgl)).trans g2
    have gf : (w4.alloc (tmCells t.head (some ⟨g, o, none⟩) t.args.length c3)).frozen? ⟨g, o, none⟩ = false := (World.frozen?_of_block (a := ⟨g, o, none⟩) (Below.heap_alloc _ _ _ hgl)).trans hg.2.frozen
    have cz : (w4.alloc (tmCells t.head (some ⟨g, o, none⟩) t.args.length c3)).cell? ⟨w4.heap.size, 1, none⟩ = some (.slice (some ⟨g, o, none⟩) t.args.length c3) := by simp [go_sem]
    have hblk : ∀ b, Blk w4 b → Blk (w4.alloc (tmCells t.head (some ⟨g, o, none⟩) t.args.length c3)) b := fun b hb => hb.block (Below.heap_alloc _ _ _ hb.lt)
    have HBLK := Lib.hid hblk
    have HCK := Lib.hid (show ∀ b p, b < w4.heap.size → (w4.alloc (tmCells t.head (some ⟨g, o, none⟩) t.args.length c3)).cell? ⟨b, p, none⟩ = w4.cell? ⟨b, p, none⟩ from fun b p hb => World.cell?_of_block (a := ⟨b, p, none⟩) (Below.heap_alloc _ _ _ hb))
    have HX5 := Lib.hid hx5
    have HG := Lib.hid hg
    have hlen : (t.args.length : Int) ≤ 1000000 := by have h1 := T.size_eq t; have h2 := T.sizes_ge_length t.args; omega
    have hne : w4.heap.size ≠ g := by omega
    clear hrow hxt hx5 hg hI4' hi1 hb4 hblk g1 g2 hx0 hl
    go_wp2
    generalize w4.alloc (tmCells t.head (some ⟨g, o, none⟩) t.args.length c3) = wc at gz1 gz2 gf cz hw6 HBLK HCK ⊢
    generalize hbc : w4.heap.size = bc at cz hne hz4 ⊢
    have HBC := Lib.hid hbc
    clear hbc
    have HW5 := Lib.hid hw6
    clear hw6
    have hgk := HG.out.1
    by_cases hx2 : x.args.length = 0
    · have hx3 : ¬ 0 < x.args.length := by omega
      clear hx2
      go_still_tail 8, (by kernel_rfl)
      change wpList _ _ _ _ _ wc.drew
      have hw6 : Below wk.heap.size wk (wc.setCell ⟨g, o, none⟩ (.int .i64 (wrap64 (x.head + 7)))).drew := (HW5.out.setCell (p := ⟨g, o, none⟩) hgk _).drew
      have HW6 := Lib.hid hw6
      obtain ⟨t1, t2, k1, k2, hq6⟩ := E.out _ hw6
      clear hw6
      go_wp2_with fail
      refine (awake_any _).mono ?_
      rintro e w7 ⟨rfl, hb7⟩
      have hw7 := HW6.out.trans (hb7.mono HW6.out.size)
      clear t1 t2 k1 k2 hb7 HW6
      obtain ⟨t1, t2, k1, k2, hq7⟩ := E.out w7 hw7
      have HQ7 := Lib.hid hq7
      have CS7 := Lib.hid (CS.out w7 hw7)
      clear hq6 hq7 hw7
      go_wp2_with fail
      refine CS7.out.mono ?_
      rintro e w8 ⟨rfl, hb8⟩
      have HW8 := Lib.hid (HQ7.out.trans (hb8.mono HQ7.out.size))
      clear hb8 t1 t2 k1 k2
      go_wp2
      go_ret
      exact ⟨rfl, HW8.out⟩
    · have hx3 : 0 < x.args.length := by omega
      have hx5 := HX5.out
      obtain ⟨_, hcm5, hx5⟩ := hx5
      rcases hx5 with hx5 | ⟨g5, o5, rfl, hg5, hrow5⟩
      · exact absurd (by rw [hx5]; rfl) hx2
      obtain ⟨q0, q1, hq0, hq1⟩ : ∃ q0 q1, w4.cell? ⟨g5, o5, none⟩ = some q0 ∧ w4.cell? ⟨g5, o5 + 1, none⟩ = some q1 := by
        cases hta : x.args with
        | nil => rw [hta] at hx3; simp at hx3
        | cons y ys =>
          rw [hta] at hrow5
          simp only [IsRowp] at hrow5
          obtain ⟨_, r1, a6, c6, r2, _⟩ := isTp_iff.1 hrow5.1
          exact ⟨_, _, r1, r2⟩
      have hk4 := fun p => HCK.out g5 p hg5.2.lt
      have hq0' := (hk4 o5).trans hq0
      have hq1' := (hk4 (o5 + 1)).trans hq1
      have hf5 := fun o => ((HBLK.out g5 hg5.2).setCell (b' := g) (o := o) (u := .int .i64 (wrap64 (x.head + 7))))
      have hf0 : (wc.setCell ⟨g, o, none⟩ (.int .i64 (wrap64 (x.head + 7)))).frozen? ⟨g5, o5, none⟩ = false := (hf5 o).frozen
      have hf1 : (wc.setCell ⟨g, o, none⟩ (.int .i64 (wrap64 (x.head + 7)))).frozen? ⟨g5, o5 + 1, none⟩ = false := (hf5 o).frozen
      obtain ⟨p0, hp0⟩ := setCell_some (w := wc) (a := ⟨g, o, none⟩) (u := .int .i64 (wrap64 (x.head + 7))) hq0'
      obtain ⟨p1, hp1⟩ := setCell_some (w := wc) (a := ⟨g, o, none⟩) (u := .int .i64 (wrap64 (x.head + 7))) hq1'
      have hxl : (x.args.length : Int) ≤ 9223372036854775807 := by unfold maxLen at hcm5; omega
      have hgk5 := hg5.1
      clear hrow5 hk4 hq0 hq1 hq0' hq1' hf5 hx2 hg5 HX5
      have gz3 : (wc.setCell ⟨g, o, none⟩ (.int .i64 (wrap64 (x.head + 7)))).cell? ⟨g, o + 1, none⟩ = some (.slice (some ⟨g5, o5, none⟩) x.args.length c5) := by
        rw [World.cell?_setCell_other _ _ _ _ (by intro e; simp at e)]; exact gz2
      go_still_tail 8, (by kernel_rfl)
      change wpList _ _ _ _ _ wc.drew
      have hw6 : Below wk.heap.size wk (((wc.setCell ⟨g, o, none⟩ (.int .i64 (wrap64 (x.head + 7)))).setCell ⟨g5, o5, none⟩ (.int .i64 900)).setCell ⟨g5, o5 + 1, none⟩ (.slice none 0 0)).drew := (((HW5.out.setCell (p := ⟨g, o, none⟩) hgk _).setCell (p := ⟨g5, o5, none⟩) hgk5 _).setCell (p := ⟨g5, o5 + 1, none⟩) hgk5 _).drew
      have HW6 := Lib.hid hw6
      obtain ⟨t1, t2, k1, k2, hq6⟩ := E.out _ hw6
      clear hw6
      go_wp2_with fail
      refine (awake_any _).mono ?_
      rintro e w7 ⟨rfl, hb7⟩
      have hw7 := HW6.out.trans (hb7.mono HW6.out.size)
      clear t1 t2 k1 k2 hb7 HW6
      obtain ⟨t1, t2, k1, k2, hq7⟩ := E.out w7 hw7
      have HQ7 := Lib.hid hq7
      have CS7 := Lib.hid (CS.out w7 hw7)
      clear hq6 hq7 hw7
      go_wp2_with fail
      refine CS7.out.mono ?_
      rintro e w8 ⟨rfl, hb8⟩
      have HW8 := Lib.hid (HQ7.out.trans (hb8.mono HQ7.out.size))
      clear hb8 t1 t2 k1 k2
      go_wp2
      go_ret
      exact ⟨rfl, HW8.out⟩

end Go.Proofs.Ytgocfiahlbgjjaa
