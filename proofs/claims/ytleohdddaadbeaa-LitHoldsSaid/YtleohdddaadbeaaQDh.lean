/- QDh: joined of Lor, Count, Lex. -/
import Derived.Test.YtleohdddaadbeaaQDf
import Derived.Test.YtleohdddaadbeaaQDa
import Derived.Test.YtleohdddaadbeaaKco
import Derived.Test.YtleohdddaadbeaaQBm
import Derived.BigQuiet
import Derived.Deep.QuietTactic
import Derived.Deep.RegionLaw
import Derived.Deep.RegionHeld3
import Derived.Test.YtleohdddaadbeaaQBd
import Derived.Test.YtleohdddaadbeaaQDe
/- Contract of lit's Orient. -/
namespace Go.Proofs.Ytleohdddaadbeaa
set_option linter.unusedVariables false
set_option linter.unusedSimpArgs false
open Go.RowKit

theorem bl_drew9 {W u : World} (h : Below W.drew.heap.size W.drew u) : Below W.heap.size W u := ⟨h.os, h.tape, h.output, h.size, h.block⟩
theorem bl_call8 {n : Nat} {A W u : World} (h : Below n A W) (hn : n ≤ A.heap.size) (hu : Below W.heap.size W u) : Below n A u := h.trans (hu.mono (Nat.le_trans hn h.size))
theorem or_cmp {g : Sg} {l r : T} (h : errL g l r = 0) : cmpV g l r = .tuple #[.int .i64 (stand g l r), .int .i64 0] := by
  obtain ⟨h1, h2, _⟩ := errL_ok h
  unfold cmpV
  rw [if_pos (errF_pair h1 h2)]

set_option maxRecDepth 100000 in
set_option maxHeartbeats 8000000 in
theorem litOrientK_any (g : Sg) (x : LV) (hx : x.sz) (n₀ : Nat) (ga : Option Addr) (gc : Nat) (w : World) (hn : n₀ ≤ w.heap.size) (hG : IsSg n₀ w g ga gc) (hX : IsLv n₀ w x) :
    Calls Try.prog 23 #[.slice ga g.length gc, x.v] w (LkPost (ornN g x.n x.l x.r) (ornL g x.l x.r) (ornR g x.l x.r) (errL g x.l x.r) w) := by
  have hG0 := hG.mono hn
  have hX0 := hX.mono hn
  have d0 := ((((Later.below (Below.refl _ w)).and (later_lv hX0)).and (later_sg hG0)).pushB (Below.refl _ _) x).pushB (Below.refl _ _) LV.zero
  simp only [heap_alloc_size] at d0
  have C1 := Lib.hid (fun (W : World) (hG : IsSg W.heap.size W g ga gc) (hX : IsLv W.heap.size W x) => litCheck_any g x hx W.heap.size ga gc W (Nat.le_refl _) hG hX)
  have C2 := Lib.hid (fun (h : errL g x.l x.r = 0) (W : World) (hG : IsSg W.heap.size W g ga gc) (hX : IsLv W.heap.size W x) => by
    have := kCompare_any g x.l x.r hx.1 hx.2 W.heap.size ga gc x.pa x.ca x.pb x.cb W (Nat.le_refl _) hG hX.lw hX.rw hX.la hX.ra
    rw [or_cmp h] at this
    exact this)
  have CC := Lib.hid (fun (z : LV) (hz : z.sz) (w5 : World) (hs : w.heap.size + 2 ≤ w5.heap.size) (hZ : IsLv w.heap.size w5 z) (W : World) (hW : Below (w.heap.size + 1) w5 W) => by
    have hWs := hW.size
    have hc1 := copy_any z.l hz.1 w.heap.size z.pa z.ca W (by omega) hZ.lw (hZ.la.below (hW.mono (by omega)))
    have hc2 := copy_any z.r hz.2 w.heap.size z.pb z.cb W (by omega) hZ.rw (hZ.ra.below (hW.mono (by omega)))
    exact And.intro (hc1.mono (R' := fun e u => ∃ a c, e = .returned (tm z.l.head a z.l.args.length c) ∧ Below W.heap.size W u ∧ Kp (w.heap.size + 2) u z.l.args a c) fun e u ⟨a, c, h1, h2, h3⟩ => ⟨a, c, h1, h3, kp_of h2 (by omega)⟩)
      (hc2.mono (R' := fun e u => ∃ a c, e = .returned (tm z.r.head a z.r.args.length c) ∧ Below W.heap.size W u ∧ Kp (w.heap.size + 2) u z.r.args a c) fun e u ⟨a, c, h1, h2, h3⟩ => ⟨a, c, h1, h3, kp_of h2 (by omega)⟩))
  have HXB := Lib.hid (fun (W : World) (hW : Below w.heap.size w W) => hX0.below hW)
  have hsz : ∃ s0, w.heap.size = s0 := ⟨_, rfl⟩
  have D := Lib.hid d0
  clear d0 hG hX hG0 hX0 hsz
  have hs1 : ((w.alloc x.obj).alloc LV.zero.obj).heap.size = w.heap.size + 2 := by simp
  obtain ⟨w1, hw1⟩ : ∃ w1, (w.alloc x.obj).alloc LV.zero.obj = w1 := ⟨_, rfl⟩
  rw [hw1] at D hs1
  have hw1' : (w.alloc x.obj).alloc (.cells #[.bool false, .int .i64 0, .slice none 0 0, .int .i64 0, .slice none 0 0] 27) = w1 := hw1
  have HW1 := Lib.hid hw1'
  clear hw1 hw1'
  go_enter Try.func23, Try.ntmps23
  go_wp2_with fail
  rw [HW1.out]
  clear HW1
  refine (C1.out w1 D.out.now.2.2.1 D.out.now.2.2.2.1).mono ?_
  rintro e w2 ⟨rfl, hb⟩
  have D2 := Lib.hid (D.out.mv hb)
  have hs2 := hb.size
  clear hb D C1
  by_cases h : errL g x.l x.r = 0
  case neg =>
    have HQ := Lib.hid D2.out.now.2.2.2.2
    have hz := D2.out.now.1
    obtain ⟨z0, z1, z2, z3, z4⟩ := hz.lc
    obtain ⟨q0, q1, q2, q3, q4⟩ := hz.lf
    simp only [LV.zero, T.head, T.args, List.length_nil] at z0 z1 z2 z3 z4
    clear hz
    obtain ⟨k, hk⟩ : ∃ k, errL g x.l x.r = k := ⟨_, rfl⟩
    have HE := Lib.hid (show ornN g x.n x.l x.r = false ∧ ornL g x.l x.r = .node 0 [] ∧ ornR g x.l x.r = .node 0 [] ∧ errL g x.l x.r = k from ⟨by unfold ornN; rw [if_neg h], by unfold ornL; rw [if_neg h], by unfold ornR; rw [if_neg h], hk⟩)
    rw [hk] at h ⊢
    have h2 : (k != 0) = true := by simpa using h
    clear h hk
    go_wp2
    refine bodyPost_ret (v := .tuple #[LV.zero.v, .int .i64 k]) (by simp [results, Try.results23, go_sem, z0, z1, z2, z3, z4, LV.zero, T.head, T.args]) rfl ?_
    exact ⟨LV.zero, by rw [HE.out.2.2.2], HE.out.1.symm, HE.out.2.1.symm, HE.out.2.2.1.symm, by decide, by decide, kp_nil _ _ _ (by simp [LV.zero, maxLen]), kp_nil _ _ _ (by simp [LV.zero, maxLen]), bl_sets HQ.out (by omega) _ _ _ _ _⟩
  have HE := Lib.hid (show ornN g x.n x.l x.r = x.n ∧ ornL g x.l x.r = oriA g x.l x.r ∧ ornR g x.l x.r = oriB g x.l x.r ∧ errL g x.l x.r = 0 from ⟨by unfold ornN; rw [if_pos h], by unfold ornL; rw [if_pos h], by unfold ornR; rw [if_pos h], h⟩)
  have C3 := Lib.hid (C2.out h)
  rw [h]
  clear h C2
  obtain ⟨⟨x0, x1, x2, x3, x4⟩, _⟩ := (show Lc w.heap.size x w2 ∧ True from ⟨D2.out.now.2.1.lc, trivial⟩)
  go_wp2_with fail
  clear x0 x1 x2 x3 x4
  refine (C3.out w2 D2.out.now.2.2.1 D2.out.now.2.2.2.1).mono ?_
  rintro e w3 ⟨rfl, hb⟩
  have D3 := Lib.hid (D2.out.mv hb)
  have hs3 := hb.size
  clear hb D2 C3
  have hbx := D3.out.now.2.1
  have hbz := D3.out.now.1
  have hfb := D3.out.now.2.2.2.2
  obtain ⟨x0, x1, x2, x3, x4⟩ := hbx.lc
  obtain ⟨f0, f1, f2, f3, f4⟩ := hbx.lf
  obtain ⟨st, hst⟩ : ∃ st, stand g x.l x.r = st := ⟨_, rfl⟩
  have hne : w.heap.size ≠ w.heap.size + 1 := by omega
  by_cases hl : st = -1
  · have HO := Lib.hid (show oriA g x.l x.r = x.r ∧ oriB g x.l x.r = x.l from ⟨by unfold oriA; rw [hst, if_pos hl], by unfold oriB; rw [hst, if_pos hl]⟩)
    rw [hst]
    clear hst
    subst hl
    have hbx5 := hbx.swap
    have hbz5 : Bo (w.heap.size + 1) LV.zero ((((w3.setCell ⟨w.heap.size, 1, none⟩ (.int .i64 x.r.head)).setCell ⟨w.heap.size, 2, none⟩ (.slice x.pb x.r.args.length x.cb)).setCell ⟨w.heap.size, 3, none⟩ (.int .i64 x.l.head)).setCell ⟨w.heap.size, 4, none⟩ (.slice x.pa x.l.args.length x.ca)) := (((hbz.other (by omega)).other (by omega)).other (by omega)).other (by omega)
    have hfb5 : Below w.heap.size w ((((w3.setCell ⟨w.heap.size, 1, none⟩ (.int .i64 x.r.head)).setCell ⟨w.heap.size, 2, none⟩ (.slice x.pb x.r.args.length x.cb)).setCell ⟨w.heap.size, 3, none⟩ (.int .i64 x.l.head)).setCell ⟨w.heap.size, 4, none⟩ (.slice x.pa x.l.args.length x.ca)) :=
      (((hfb.setCell (p := ⟨w.heap.size, 1, none⟩) (Nat.le_refl _) _).setCell (p := ⟨w.heap.size, 2, none⟩) (Nat.le_refl _) _).setCell (p := ⟨w.heap.size, 3, none⟩) (Nat.le_refl _) _).setCell (p := ⟨w.heap.size, 4, none⟩) (Nat.le_refl _) _
    have HB3 := Lib.hid (And.intro hbx5 (And.intro hbz5 hfb5))
    clear hbx hbz hfb hbx5 hbz5 hfb5
    go_wp2
    clear x0 x1 x2 x3 x4 f0 f1 f2 f3 f4
    generalize (((w3.setCell ⟨w.heap.size, 1, none⟩ (.int .i64 x.r.head)).setCell ⟨w.heap.size, 2, none⟩ (.slice x.pb x.r.args.length x.cb)).setCell ⟨w.heap.size, 3, none⟩ (.int .i64 x.l.head)).setCell ⟨w.heap.size, 4, none⟩ (.slice x.pa x.l.args.length x.ca) = w5 at HB3 ⊢
    have HB5 := HB3
    clear HB3 D3
    have hs5 := HB5.out.2.1.lt
    have KP := Lib.hid (show ∀ W, Below (w.heap.size + 1) w5 W → Zb (w.heap.size + 1) W → Lc w.heap.size x.turn W ∧ Zb (w.heap.size + 1) W ∧ Below (w.heap.size + 1) w5 W from fun W hW hZ => ⟨Bo.lc ((hW.block _ (by omega)).trans HB5.out.1), hZ, hW⟩)
    have hz5 := HB5.out.2.1.zb
    have CZ := Lib.hid (CC.out x.turn ⟨hx.2, hx.1⟩ w5 (by omega) (HXB.out w5 HB5.out.2.2).turn)
    simp only [Lc, LV.turn] at KP
    simp only [LV.turn] at CZ
    have hsw : w.heap.size + 1 ≤ w5.heap.size := by omega
    obtain ⟨⟨x0, x1, x2, x3, x4⟩, _⟩ := KP.out w5 (Below.refl _ _) hz5
    refine wp_region_noPanic ?_
    go_region_held3 (fun w' => (w'.cell? ⟨w.heap.size, 0, none⟩ = some (.bool x.n) ∧ w'.cell? ⟨w.heap.size, 1, none⟩ = some (.int .i64 x.r.head) ∧ w'.cell? ⟨w.heap.size, 2, none⟩ = some (.slice x.pb x.r.args.length x.cb) ∧ w'.cell? ⟨w.heap.size, 3, none⟩ = some (.int .i64 x.l.head) ∧ w'.cell? ⟨w.heap.size, 4, none⟩ = some (.slice x.pa x.l.args.length x.ca)) ∧ Zb (w.heap.size + 1) w' ∧ Below (w.heap.size + 1) w5 w')
      (first
        | with_reducible exact KP.out _ (Below.refl _ _) hz5
        | with_reducible exact KP.out _ (Below.refl _ _).drew hz5.dr
        | with_reducible exact KP.out _ hB hZ
        | with_reducible exact KP.out _ (bl_sets hB (Nat.le_refl _) _ _ _ _ _) (hZ.sets _ _ _ _ _))
      (first
        | (go_at_call 48; with_reducible refine ((CZ.out _ (‹_ ∧ _ ∧ Below (w.heap.size + 1) w5 _›.2.2)).1).mono ?_; rintro e uL ⟨aL, cL, rfl, hu, KL⟩; have hB := bl_call8 (‹_ ∧ _ ∧ Below (w.heap.size + 1) w5 _›.2.2) hsw hu; have hZ := Zb.bl (‹_ ∧ _ ∧ Below (w.heap.size + 1) w5 _›.2.1) hu; obtain ⟨v0, v1, v2, v3, v4, z0, z1, z2, z3, z4, q0, q1, q2, q3, q4⟩ := hZ.all; try (have KRm := KR.mv (by first | exact hu | exact bl_drew9 hu)))
        | (go_at_call 48; with_reducible refine ((CZ.out _ (‹_ ∧ _ ∧ Below (w.heap.size + 1) w5 _›.2.2)).2).mono ?_; rintro e uR ⟨aR, cR, rfl, hu, KR⟩; have hB := bl_call8 (‹_ ∧ _ ∧ Below (w.heap.size + 1) w5 _›.2.2) hsw hu; have hZ := Zb.bl (‹_ ∧ _ ∧ Below (w.heap.size + 1) w5 _›.2.1) hu; obtain ⟨v0, v1, v2, v3, v4, z0, z1, z2, z3, z4, q0, q1, q2, q3, q4⟩ := hZ.all; try (have KLm := KL.mv (by first | exact hu | exact bl_drew9 hu))))
    all_goals
      refine NoPanic.normal ?_
      go_wp2
      refine bodyPost_ret (v := .tuple #[(LV.mk x.n x.r x.l aL cL aR cR).v, .int .i64 0]) (by simp [results, Try.results23, go_sem, z0, z1, z2, z3, z4]) rfl ?_
      exact ⟨LV.mk x.n x.r x.l aL cL aR cR, by rw [HE.out.2.2.2], HE.out.1.symm, by rw [HE.out.2.1, HO.out.1], by rw [HE.out.2.2.1, HO.out.2], (HXB.out w5 HB5.out.2.2).rw, (HXB.out w5 HB5.out.2.2).lw, by first | exact (KLm.setsK (by omega) _ _ _ _ _).mono (by omega) | exact (KL.setsK (by omega) _ _ _ _ _).mono (by omega), by first | exact (KRm.setsK (by omega) _ _ _ _ _).mono (by omega) | exact (KR.setsK (by omega) _ _ _ _ _).mono (by omega), bl_sets (HB5.out.2.2.trans (hB.mono (by omega))) (by omega) _ _ _ _ _⟩
  · have HO := Lib.hid (show oriA g x.l x.r = x.l ∧ oriB g x.l x.r = x.r from ⟨by unfold oriA; rw [hst, if_neg hl], by unfold oriB; rw [hst, if_neg hl]⟩)
    have hl' : (st == -1) = false := by simpa using hl
    rw [hst]
    clear hst hl
    have HB5 := Lib.hid (And.intro hbx (And.intro hbz hfb))
    clear hbx hbz hfb f0 f1 f2 f3 f4 D3
    go_wp2
    clear x0 x1 x2 x3 x4
    generalize w3 = w5 at *
    have hs5 := HB5.out.2.1.lt
    have KP := Lib.hid (show ∀ W, Below (w.heap.size + 1) w5 W → Zb (w.heap.size + 1) W → Lc w.heap.size x W ∧ Zb (w.heap.size + 1) W ∧ Below (w.heap.size + 1) w5 W from fun W hW hZ => ⟨Bo.lc ((hW.block _ (by omega)).trans HB5.out.1), hZ, hW⟩)
    have hz5 := HB5.out.2.1.zb
    have CZ := Lib.hid (CC.out x hx w5 (by omega) (HXB.out w5 HB5.out.2.2))
    simp only [Lc] at KP
    have hsw : w.heap.size + 1 ≤ w5.heap.size := by omega
    obtain ⟨⟨x0, x1, x2, x3, x4⟩, _⟩ := KP.out w5 (Below.refl _ _) hz5
    refine wp_region_noPanic ?_
    go_region_held3 (fun w' => (w'.cell? ⟨w.heap.size, 0, none⟩ = some (.bool x.n) ∧ w'.cell? ⟨w.heap.size, 1, none⟩ = some (.int .i64 x.l.head) ∧ w'.cell? ⟨w.heap.size, 2, none⟩ = some (.slice x.pa x.l.args.length x.ca) ∧ w'.cell? ⟨w.heap.size, 3, none⟩ = some (.int .i64 x.r.head) ∧ w'.cell? ⟨w.heap.size, 4, none⟩ = some (.slice x.pb x.r.args.length x.cb)) ∧ Zb (w.heap.size + 1) w' ∧ Below (w.heap.size + 1) w5 w')
      (first
        | with_reducible exact KP.out _ (Below.refl _ _) hz5
        | with_reducible exact KP.out _ (Below.refl _ _).drew hz5.dr
        | with_reducible exact KP.out _ hB hZ
        | with_reducible exact KP.out _ (bl_sets hB (Nat.le_refl _) _ _ _ _ _) (hZ.sets _ _ _ _ _))
      (first
        | (go_at_call 48; with_reducible refine ((CZ.out _ (‹_ ∧ _ ∧ Below (w.heap.size + 1) w5 _›.2.2)).1).mono ?_; rintro e uL ⟨aL, cL, rfl, hu, KL⟩; have hB := bl_call8 (‹_ ∧ _ ∧ Below (w.heap.size + 1) w5 _›.2.2) hsw hu; have hZ := Zb.bl (‹_ ∧ _ ∧ Below (w.heap.size + 1) w5 _›.2.1) hu; obtain ⟨v0, v1, v2, v3, v4, z0, z1, z2, z3, z4, q0, q1, q2, q3, q4⟩ := hZ.all; try (have KRm := KR.mv (by first | exact hu | exact bl_drew9 hu)))
        | (go_at_call 48; with_reducible refine ((CZ.out _ (‹_ ∧ _ ∧ Below (w.heap.size + 1) w5 _›.2.2)).2).mono ?_; rintro e uR ⟨aR, cR, rfl, hu, KR⟩; have hB := bl_call8 (‹_ ∧ _ ∧ Below (w.heap.size + 1) w5 _›.2.2) hsw hu; have hZ := Zb.bl (‹_ ∧ _ ∧ Below (w.heap.size + 1) w5 _›.2.1) hu; obtain ⟨v0, v1, v2, v3, v4, z0, z1, z2, z3, z4, q0, q1, q2, q3, q4⟩ := hZ.all; try (have KLm := KL.mv (by first | exact hu | exact bl_drew9 hu))))
    all_goals
      refine NoPanic.normal ?_
      go_wp2
      refine bodyPost_ret (v := .tuple #[(LV.mk x.n x.l x.r aL cL aR cR).v, .int .i64 0]) (by simp [results, Try.results23, go_sem, z0, z1, z2, z3, z4]) rfl ?_
      exact ⟨LV.mk x.n x.l x.r aL cL aR cR, by rw [HE.out.2.2.2], HE.out.1.symm, by rw [HE.out.2.1, HO.out.1], by rw [HE.out.2.2.1, HO.out.2], (HXB.out w5 HB5.out.2.2).lw, (HXB.out w5 HB5.out.2.2).rw, by first | exact (KLm.setsK (by omega) _ _ _ _ _).mono (by omega) | exact (KL.setsK (by omega) _ _ _ _ _).mono (by omega), by first | exact (KRm.setsK (by omega) _ _ _ _ _).mono (by omega) | exact (KR.setsK (by omega) _ _ _ _ _).mono (by omega), bl_sets (HB5.out.2.2.trans (hB.mono (by omega))) (by omega) _ _ _ _ _⟩

theorem litOrient_any (g : Sg) (x : LV) (hx : x.sz) (n₀ : Nat) (ga : Option Addr) (gc : Nat) (w : World) (hn : n₀ ≤ w.heap.size) (hG : IsSg n₀ w g ga gc) (hX : IsLv n₀ w x) :
    Calls Try.prog 23 #[.slice ga g.length gc, x.v] w (LePost (ornN g x.n x.l x.r) (ornL g x.l x.r) (ornR g x.l x.r) (errL g x.l x.r) w) :=
  (litOrientK_any g x hx n₀ ga gc w hn hG hX).mono fun _ _ h => h.le

end Go.Proofs.Ytleohdddaadbeaa

/- Contract of Few (layer 1). -/
namespace Go.Proofs.Ytleohdddaadbeaa
set_option linter.unusedVariables false
set_option linter.unusedSimpArgs false
open Go.RowKit

/-- Few(t): at most 500 parts. -/
theorem few_any (t : T) (n₀ : Nat) (a : Option Addr) (c : Nat) (w : World) (hn : n₀ ≤ w.heap.size) (hA : IsArgs n₀ w t.args a c) :
    Calls Try.prog 28 #[tm t.head a t.args.length c] w fun e w' => e = .returned (.bool (decide (t.size ≤ 500))) ∧ Below w.heap.size w w' := by
  have HA := Lib.hid hA
  clear hA
  have hC : ∀ W, Below w.heap.size w W → Calls Try.prog 29 #[tm t.head a t.args.length c, .int .i64 500] W fun e w' => e = .returned (.int .i64 (min t.size 501 : Nat)) ∧ Below W.heap.size W w' :=
    fun W hW => count_any t.size t (Nat.le_refl _) 500 n₀ a c W (Nat.le_refl _) (Nat.le_trans hn hW.size) (HA.out.below (hW.mono hn))
  have HC := Lib.hid hC
  clear hC
  go_enter Try.func28, Try.ntmps28
  go_wp2_with fail
  refine (HC.out _ ((Below.refl _ _).alloc (Nat.le_refl _) _)).mono ?_
  rintro e w2 ⟨rfl, hB2⟩
  have HB2 := Lib.hid hB2
  clear hB2
  go_wp2
  go_ret
  refine ⟨?_, ((Below.refl _ w).alloc (Nat.le_refl _) _).trans (HB2.out.mono (by simp))⟩
  by_cases h : t.size ≤ 500
  · simp; omega
  · simp; omega

end Go.Proofs.Ytleohdddaadbeaa

/- Contracts of the document's answer: Exact and Few of literals (layer 9). -/
namespace Go.Proofs.Ytleohdddaadbeaa
set_option linter.unusedVariables false
set_option linter.unusedSimpArgs false
open Go.RowKit

set_option maxRecDepth 100000 in
set_option maxHeartbeats 2000000 in
/-- Two literals that are the same, side by side. -/
theorem exactAt_any (x y : LV) (en : y.n = x.n) (el : x.l = y.l) (er : x.r = y.r) (hx : x.sz) (n₀ : Nat) (w : World) (hn : n₀ ≤ w.heap.size) (hX : IsLv n₀ w x) (hY : IsLv n₀ w y) :
    Calls Try.prog 19 #[x.v, y.v] w fun e w' => e = .returned (.bool true) ∧ Below w.heap.size w w' := by
  have d0 := (((((Later.below (Below.refl _ w)).and (later_lv (hY.mono hn))).and (later_lv (hX.mono hn))).pushL (Below.refl _ _) x).pushL (Below.refl _ _) y)
  have C1 := Lib.hid (fun (W : World) (hX : IsLv W.heap.size W x) (hY : IsLv W.heap.size W y) => sameAt_any x.l y.l el hx.1 W.heap.size x.pa x.ca y.pa y.ca W (Nat.le_refl _) hX.la hY.la)
  have C2 := Lib.hid (fun (W : World) (hX : IsLv W.heap.size W x) (hY : IsLv W.heap.size W y) => sameAt_any x.r y.r er hx.2 W.heap.size x.pb x.cb y.pb y.cb W (Nat.le_refl _) hX.ra hY.ra)
  simp only [heap_alloc_size] at d0
  have D := Lib.hid d0
  have hnn : (x.n == y.n) = true := by rw [en]; simp
  clear hX hY d0 en el er
  go_enter Try.func19, Try.ntmps19
  go_wp2_with fail
  generalize (w.alloc x.obj).alloc y.obj = w1 at D ⊢
  generalize hb0 : w.heap.size = b0 at D ⊢
  have HB0 := Lib.hid hb0
  clear hb0
  refine (C1.out w1 D.out.now.2.2.1 D.out.now.2.2.2.1).mono ?_
  rintro e w2 ⟨rfl, hb⟩
  have D2 := Lib.hid (D.out.mv hb)
  clear hb D C1
  obtain ⟨⟨y0, y1, y2, y3, y4⟩, ⟨x0, x1, x2, x3, x4⟩, _⟩ := D2.out.now
  go_wp2_with fail
  refine (C2.out w2 D2.out.now.2.2.1 D2.out.now.2.2.2.1).mono ?_
  clear x0 x1 x2 x3 x4 y0 y1 y2 y3 y4
  rintro e w3 ⟨rfl, hb⟩
  have HQ := Lib.hid (D2.out.mv hb).now.2.2.2.2
  clear hb D2 C2
  go_wp2
  go_ret
  exact ⟨rfl, by rw [HB0.out]; exact HQ.out⟩

set_option maxRecDepth 100000 in
set_option maxHeartbeats 2000000 in
theorem litFew_any (x : LV) (n₀ : Nat) (w : World) (hn : n₀ ≤ w.heap.size) (hX : IsLv n₀ w x) :
    Calls Try.prog 8 #[x.v] w fun e w' => ∃ b : Bool, e = .returned (.bool b) ∧ (b = true → x.l.size ≤ 500 ∧ x.r.size ≤ 500) ∧ Below w.heap.size w w' := by
  have d0 := (((Later.below (Below.refl _ w)).and (later_lv (hX.mono hn))).pushL (Below.refl _ _) x)
  have C1 := Lib.hid (fun (W : World) (hX : IsLv W.heap.size W x) => few_any x.l W.heap.size x.pa x.ca W (Nat.le_refl _) hX.la)
  have C2 := Lib.hid (fun (W : World) (hX : IsLv W.heap.size W x) => few_any x.r W.heap.size x.pb x.cb W (Nat.le_refl _) hX.ra)
  have D := Lib.hid d0
  clear hX d0
  go_enter Try.func8, Try.ntmps8
  go_wp2_with fail
  generalize w.alloc x.obj = w1 at D ⊢
  generalize hb0 : w.heap.size = b0 at D ⊢
  have HB0 := Lib.hid hb0
  clear hb0
  refine (C1.out w1 D.out.now.2.1).mono ?_
  rintro e w2 ⟨rfl, hb⟩
  have D2 := Lib.hid (D.out.mv hb)
  clear hb D C1
  obtain ⟨⟨x0, x1, x2, x3, x4⟩, _⟩ := D2.out.now
  by_cases h1 : x.l.size ≤ 500
  · have H1 := Lib.hid h1
    rw [decide_eq_true h1]
    clear h1
    go_wp2_with fail
    refine (C2.out w2 D2.out.now.2.1).mono ?_
    clear x0 x1 x2 x3 x4
    rintro e w3 ⟨rfl, hb⟩
    have HQ := Lib.hid (D2.out.mv hb).now.2.2
    clear hb D2 C2
    obtain ⟨r, hr⟩ : ∃ r, decide (x.r.size ≤ 500) = r := ⟨_, rfl⟩
    rw [hr]
    have HR := Lib.hid (show r = true → x.l.size ≤ 500 ∧ x.r.size ≤ 500 from fun e => ⟨H1.out, of_decide_eq_true (by rw [hr, e])⟩)
    clear hr
    go_wp2
    go_ret
    exact ⟨r, by cases r <;> rfl, HR.out, by rw [HB0.out]; exact HQ.out⟩
  · have HQ := Lib.hid D2.out.now.2.2
    rw [decide_eq_false h1]
    clear h1
    go_wp2
    go_ret
    exact ⟨false, rfl, by simp, by rw [HB0.out]; exact HQ.out⟩
theorem sz_few {x : LV} (h : x.l.size ≤ 500 ∧ x.r.size ≤ 500) : x.sz := ⟨by omega, by omega⟩

end Go.Proofs.Ytleohdddaadbeaa
