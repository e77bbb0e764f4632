/- QDi: joined of Lsa, Aw9. -/
import Derived.Test.YtleohdddaadbeaaGreatQDa
import Derived.Test.YtleohdddaadbeaaGreatQDg
import Derived.Test.YtleohdddaadbeaaGreatQDb
import Derived.Test.YtleohdddaadbeaaGreatQDh
import Derived.BigQuiet
import Derived.Deep.QuietTactic
import Derived.Lib.QuietBelow
import Derived.Deep.RegionLaw
import Derived.Deep.RegionHeld3
import Derived.Deep.CutRange
/- Contracts of lit's sameSides, Same and Trivial. -/
namespace Go.Proofs.YtleohdddaadbeaaGreat
set_option linter.unusedVariables false
set_option linter.unusedSimpArgs false
open Go.RowKit

set_option maxRecDepth 100000 in
set_option maxHeartbeats 2000000 in
theorem sameSides_any (x y : LV) (hx : x.sz) (n₀ : Nat) (w : World) (hn : n₀ ≤ w.heap.size) (hX : IsLv n₀ w x) (hY : IsLv n₀ w y) :
    Calls Tryz.prog 44 #[x.v, y.v] w fun e w' => e = .returned (.bool (sidB x.l x.r y.l y.r)) ∧ Below w.heap.size w w' := by
  have d0 := (((((Later.below (Below.refl _ w)).and (later_lv (hY.mono hn))).and (later_lv (hX.mono hn))).pushL (Below.refl _ _) x).pushL (Below.refl _ _) y)
  simp only [heap_alloc_size] at d0
  have D := Lib.hid d0
  have S1 := fun (W : World) (hX : IsLv W.heap.size W x) (hY : IsLv W.heap.size W y) => same_any x.l y.l hx.1 W.heap.size x.pa x.ca y.pa y.ca W (Nat.le_refl _) hX.lw hY.lw hX.la hY.la
  have S2 := fun (W : World) (hX : IsLv W.heap.size W x) (hY : IsLv W.heap.size W y) => same_any x.r y.r hx.2 W.heap.size x.pb x.cb y.pb y.cb W (Nat.le_refl _) hX.rw hY.rw hX.ra hY.ra
  have S3 := fun (W : World) (hX : IsLv W.heap.size W x) (hY : IsLv W.heap.size W y) => same_any x.l y.r hx.1 W.heap.size x.pa x.ca y.pb y.cb W (Nat.le_refl _) hX.lw hY.rw hX.la hY.ra
  have S4 := fun (W : World) (hX : IsLv W.heap.size W x) (hY : IsLv W.heap.size W y) => same_any x.r y.l hx.2 W.heap.size x.pb x.cb y.pa y.ca W (Nat.le_refl _) hX.rw hY.lw hX.ra hY.la
  unfold sidB
  generalize sameB x.l y.l = s1 at S1 ⊢
  generalize sameB x.r y.r = s2 at S2 ⊢
  generalize sameB x.l y.r = s3 at S3 ⊢
  generalize sameB x.r y.l = s4 at S4 ⊢
  have C1 := Lib.hid S1
  have C2 := Lib.hid S2
  have C3 := Lib.hid S3
  have C4 := Lib.hid S4
  clear S1 S2 S3 S4 d0 hX hY
  go_enter Tryz.func44, Tryz.ntmps44
  go_wp2_with fail
  generalize (w.alloc x.obj).alloc y.obj = w1 at D ⊢
  generalize hb0 : w.heap.size = b0 at D ⊢
  have HB0 := Lib.hid hb0
  clear hb0
  refine (C1.out w1 D.out.now.2.2.1 D.out.now.2.2.2.1).mono ?_
  rintro e w2 ⟨rfl, hb⟩
  have D2 := Lib.hid (D.out.mv hb)
  clear hb D C1
  obtain ⟨⟨y0, y1, y2, y3, y4⟩, ⟨x0, x1, x2, x3, x4⟩, _⟩ := D2.out.now
  cases s1 with
  | true =>
    go_wp2_with fail
    refine (C2.out w2 D2.out.now.2.2.1 D2.out.now.2.2.2.1).mono ?_
    clear y0 y1 y2 y3 y4 x0 x1 x2 x3 x4
    rintro e w3 ⟨rfl, hb⟩
    have D3 := Lib.hid (D2.out.mv hb)
    clear hb D2 C2
    cases s2 with
    | true =>
      have HQ := Lib.hid D3.out.now.2.2.2.2
      go_wp2
      go_ret
      exact ⟨rfl, by rw [HB0.out]; exact HQ.out⟩
    | false =>
      obtain ⟨⟨y0, y1, y2, y3, y4⟩, ⟨x0, x1, x2, x3, x4⟩, _⟩ := D3.out.now
      go_wp2_with fail
      refine (C3.out w3 D3.out.now.2.2.1 D3.out.now.2.2.2.1).mono ?_
      clear y0 y1 y2 y3 y4 x0 x1 x2 x3 x4
      rintro e w4 ⟨rfl, hb⟩
      have D4 := Lib.hid (D3.out.mv hb)
      clear hb D3 C3
      cases s3 with
      | false =>
        have HQ := Lib.hid D4.out.now.2.2.2.2
        go_wp2
        go_ret
        exact ⟨rfl, by rw [HB0.out]; exact HQ.out⟩
      | true =>
        obtain ⟨⟨y0, y1, y2, y3, y4⟩, ⟨x0, x1, x2, x3, x4⟩, _⟩ := D4.out.now
        go_wp2_with fail
        refine (C4.out w4 D4.out.now.2.2.1 D4.out.now.2.2.2.1).mono ?_
        clear y0 y1 y2 y3 y4 x0 x1 x2 x3 x4
        rintro e w5 ⟨rfl, hb⟩
        have HQ := Lib.hid (D4.out.mv hb).now.2.2.2.2
        clear hb D4 C4
        go_wp2
        go_ret
        exact ⟨by cases s4 <;> rfl, by rw [HB0.out]; exact HQ.out⟩
  | false =>
    go_wp2_with fail
    refine (C3.out w2 D2.out.now.2.2.1 D2.out.now.2.2.2.1).mono ?_
    clear y0 y1 y2 y3 y4 x0 x1 x2 x3 x4
    rintro e w4 ⟨rfl, hb⟩
    have D4 := Lib.hid (D2.out.mv hb)
    clear hb D2 C3
    cases s3 with
    | false =>
      have HQ := Lib.hid D4.out.now.2.2.2.2
      go_wp2
      go_ret
      exact ⟨rfl, by rw [HB0.out]; exact HQ.out⟩
    | true =>
      obtain ⟨⟨y0, y1, y2, y3, y4⟩, ⟨x0, x1, x2, x3, x4⟩, _⟩ := D4.out.now
      go_wp2_with fail
      refine (C4.out w4 D4.out.now.2.2.1 D4.out.now.2.2.2.1).mono ?_
      clear y0 y1 y2 y3 y4 x0 x1 x2 x3 x4
      rintro e w5 ⟨rfl, hb⟩
      have HQ := Lib.hid (D4.out.mv hb).now.2.2.2.2
      clear hb D4 C4
      go_wp2
      go_ret
      exact ⟨by cases s4 <;> rfl, by rw [HB0.out]; exact HQ.out⟩

set_option maxRecDepth 100000 in
set_option maxHeartbeats 2000000 in
theorem litSame_any (x y : LV) (hx : x.sz) (n₀ : Nat) (w : World) (hn : n₀ ≤ w.heap.size) (hX : IsLv n₀ w x) (hY : IsLv n₀ w y) :
    Calls Tryz.prog 25 #[x.v, y.v] w fun e w' => e = .returned (.bool (samL x.n x.l x.r y.n y.l y.r)) ∧ Below w.heap.size w w' := by
  have hF : Below w.heap.size w ((w.alloc x.obj).alloc y.obj) := ((Below.refl _ w).alloc (Nat.le_refl _) _).alloc (by simp) _
  have S := sameSides_any x y hx n₀ ((w.alloc x.obj).alloc y.obj) (by simp; omega) (hX.below (hF.mono hn)) (hY.below (hF.mono hn))
  unfold samL
  generalize sidB x.l x.r y.l y.r = s at S ⊢
  have C := Lib.hid S
  have HF := Lib.hid hF
  clear S hX hY hF
  obtain ⟨p, hp⟩ : ∃ p, (x.n == y.n) = p := ⟨_, rfl⟩
  rw [hp]
  go_enter Tryz.func25, Tryz.ntmps25
  cases p with
  | false =>
    go_wp2
    go_ret
    exact ⟨rfl, HF.out⟩
  | true =>
    go_wp2_with fail
    refine C.out.mono ?_
    rintro e w2 ⟨rfl, hb⟩
    have HB := Lib.hid (HF.out.trans (hb.mono HF.out.size))
    clear hb
    go_wp2
    go_ret
    exact ⟨by cases s <;> rfl, HB.out⟩

set_option maxRecDepth 100000 in
set_option maxHeartbeats 2000000 in
theorem litTrivial_any (x : LV) (hx : x.sz) (n₀ : Nat) (w : World) (hn : n₀ ≤ w.heap.size) (hX : IsLv n₀ w x) :
    Calls Tryz.prog 26 #[x.v] w fun e w' => e = .returned (.bool (sameB x.l x.r)) ∧ Below w.heap.size w w' := by
  have hF : Below w.heap.size w (w.alloc x.obj) := (Below.refl _ w).alloc (Nat.le_refl _) _
  have hX1 := hX.below (hF.mono hn)
  have C := Lib.hid (same_any x.l x.r hx.1 n₀ x.pa x.ca x.pb x.cb (w.alloc x.obj) (by simp; omega) hX.lw hX.rw hX1.la hX1.ra)
  have HF := Lib.hid hF
  clear hX hF hX1
  go_enter Tryz.func26, Tryz.ntmps26
  go_wp2_with fail
  refine C.out.mono ?_
  rintro e w2 ⟨rfl, hb⟩
  have HB := Lib.hid (HF.out.trans (hb.mono HF.out.size))
  clear hb
  go_wp2
  go_ret
  exact ⟨rfl, HB.out⟩

end Go.Proofs.YtleohdddaadbeaaGreat

/- The document's example of layer 9. -/
namespace Go.Proofs.YtleohdddaadbeaaGreat
set_option linter.unusedVariables false
set_option linter.unusedSimpArgs false
open Go.RowKit

theorem ex9a : errL g9 A9 F9 = 0 := by kernel_rfl
theorem ex9b : ornN g9 false A9 F9 = false := by kernel_rfl
theorem ex9c : ornL g9 A9 F9 = F9 := by kernel_rfl
theorem ex9d : ornR g9 A9 F9 = A9 := by kernel_rfl
theorem ex9e : samL false A9 F9 false F9 A9 = true := by kernel_rfl
theorem ex9f : sameB (.node 0 []) (.node 0 []) = true := by kernel_rfl
theorem toy9_any (w : World) : Calls Tryz.prog 24 #[] w fun e u => ∃ bg : Nat, e = .returned (.slice (some ⟨bg, 0, none⟩) 3 3) ∧ Below w.heap.size w u ∧ Later (fun X => IsSg X.heap.size X g9 (some ⟨bg, 0, none⟩) 3) u := by
  go_enter Tryz.func24, Tryz.ntmps24
  go_wp2
  go_ret
  exact ⟨_, rfl, (Below.refl _ w).alloc (Nat.le_refl _) _, fun X hX => g9_mem ((later_cs w cells9.toArray 39) X hX)⟩

theorem Later.to {F : World → Prop} {W X : World} (h : Later F W) (hX : Below W.heap.size W X) : F X := h X hX
/-- What region 3 leaves: a new variable that holds the oriented literal. -/
def Cut9 (W7 : World) (v3 v4 : Value) (wx : World) : Prop := ∃ (bo : Nat) (aL : Option Addr) (cL : Nat) (aR : Option Addr) (cR : Nat), v3 = .pointer (some ⟨bo, 0, none⟩) ∧ v4 = .int .i64 0 ∧ bo < wx.heap.size ∧ Lc bo ⟨false, F9, A9, aL, cL, aR, cR⟩ wx ∧ IsLv wx.heap.size wx ⟨false, F9, A9, aL, cL, aR, cR⟩ ∧ Below W7.heap.size W7 wx
theorem cut9_new {W7 W u : World} {aL aR : Option Addr} {cL cR : Nat} (hB : Below W7.heap.size W7 u) (hK : Kp W.heap.size u F9.args aL cL) (hL : Kp W.heap.size u A9.args aR cR) :
    Cut9 W7 (.pointer (some ⟨u.heap.size, 0, none⟩)) (.int .i64 0) (u.alloc (.cells #[.bool false, .int .i64 2, .slice aL 1 cL, .int .i64 1, .slice aR 0 cR] 27)) := by
  have hal : Below u.heap.size u (u.alloc (LV.mk false F9 A9 aL cL aR cR).obj) := (Below.refl _ _).alloc (Nat.le_refl _) _
  exact ⟨u.heap.size, aL, cL, aR, cR, rfl, rfl, by simp, (later_lc u ⟨false, F9, A9, aL, cL, aR, cR⟩).now, ⟨(show (Lit.int .i64 2).wf = true from by decide), (show (Lit.int .i64 1).wf = true from by decide), (hK.mv hal).now, (hL.mv hal).now⟩, hB.alloc hB.size _⟩
theorem cut9_set {W7 W u : World} {bo : Nat} {aL aR : Option Addr} {cL cR : Nat} (hZ : Zb bo u) (hB : Below W7.heap.size W7 u) (hb : W7.heap.size ≤ bo) (hw : bo < W.heap.size) (hK : Kp W.heap.size u F9.args aL cL) (hL : Kp W.heap.size u A9.args aR cR) :
    Cut9 W7 (.pointer (some ⟨bo, 0, none⟩)) (.int .i64 0) (((((u.setCell ⟨bo, 0, none⟩ (.bool false)).setCell ⟨bo, 1, none⟩ (.int .i64 2)).setCell ⟨bo, 2, none⟩ (.slice aL 1 cL)).setCell ⟨bo, 3, none⟩ (.int .i64 1)).setCell ⟨bo, 4, none⟩ (.slice aR 0 cR)) :=
  ⟨bo, aL, cL, aR, cR, rfl, rfl, (hZ.sets _ _ _ _ _).lt, hZ.lc ⟨false, F9, A9, aL, cL, aR, cR⟩, ⟨(show (Lit.int .i64 2).wf = true from by decide), (show (Lit.int .i64 1).wf = true from by decide), (hK.setsK hw _ _ _ _ _).now, (hL.setsK hw _ _ _ _ _).now⟩, bl_sets hB hb _ _ _ _ _⟩

set_option maxRecDepth 100000 in
set_option maxHeartbeats 4000000 in
theorem awake9_any (w : World) : Calls Tryz.prog 10 #[] w fun e w' => e = .returned (.bool true) ∧ Below w.heap.size w w' := by
  have V0 := Lib.hid (fun (W : World) => show Calls Tryz.prog 23 #[.int .i64 0] W fun e w' => e = .returned (tm (-1) none 0 0) ∧ Below W.heap.size W w' from refVar_any 0 W (by decide) (by decide))
  have TC := Lib.hid (fun (br : Nat) (W : World) => show Calls Tryz.prog 21 #[.agg #[.bool false, .int .i64 1, .slice none 0 0, .int .i64 2, .slice (some ⟨br, 0, none⟩) 1 1]] W fun e w' => e = .returned (.agg #[.bool false, .int .i64 2, .slice (some ⟨br, 0, none⟩) 1 1, .int .i64 1, .slice none 0 0]) ∧ Below W.heap.size W w' from turn_any (X9 br) W)
  have OC := Lib.hid (fun (br bg : Nat) (W : World) (hC : Cs br [.int .i64 (-1), .slice none 0 0] W) (hG : IsSg W.heap.size W g9 (some ⟨bg, 0, none⟩) 3) =>
    show Calls Tryz.prog 8 #[.slice (some ⟨bg, 0, none⟩) 3 3, .agg #[.bool false, .int .i64 1, .slice none 0 0, .int .i64 2, .slice (some ⟨br, 0, none⟩) 1 1]] W fun e u => ∃ (aL : Option Addr) (cL : Nat) (aR : Option Addr) (cR : Nat), e = .returned (.tuple #[.agg #[.bool false, .int .i64 2, .slice aL 1 cL, .int .i64 1, .slice aR 0 cR], .int .i64 0]) ∧ Below W.heap.size W u ∧ Kp W.heap.size u F9.args aL cL ∧ Kp W.heap.size u A9.args aR cR from by
    have := litOrientK_any g9 (X9 br) ⟨by simp [X9, A9, T.size, T.sizes], by simp [X9, F9, T.size, T.sizes]⟩ W.heap.size (some ⟨bg, 0, none⟩) 3 W (Nat.le_refl _) hG (x9_mem hC)
    refine this.mono fun e u h => ?_
    obtain ⟨⟨zn, zl, zr, za, zc, zb, zd⟩, he, h1, h2, h3, h4, h5, h6, h7, h8⟩ := h
    rw [show errL g9 (X9 br).l (X9 br).r = 0 from ex9a] at he
    rw [show ornN g9 (X9 br).n (X9 br).l (X9 br).r = false from ex9b] at h1
    rw [show ornL g9 (X9 br).l (X9 br).r = F9 from ex9c] at h2
    rw [show ornR g9 (X9 br).l (X9 br).r = A9 from ex9d] at h3
    simp only at h1 h2 h3
    subst h1 h2 h3
    exact ⟨za, zc, zb, zd, he, h8, h6, h7⟩)
  go_enter Tryz.func10, Tryz.ntmps10
  go_wp2_with fail
  refine (fun_any 1 none 0 0 _).mono ?_
  rintro e w1 ⟨rfl, hb1⟩
  go_wp2_with fail
  refine (V0.out _).mono ?_
  rintro e w2 ⟨rfl, hb2⟩
  have HB2 := Lib.hid (hb1.trans (hb2.mono hb1.size))
  clear hb1 hb2
  go_wp2_with fail
  refine (fun_any 2 (some ⟨w2.heap.size, 0, none⟩) 1 1 _).mono ?_
  rintro e w4 ⟨rfl, hb4⟩
  have hc4 := Cs.bl (later_cs w2 #[.int .i64 (-1), .slice none 0 0] 25).now hb4
  have hal := HB2.out.alloc (o := .cells #[.int .i64 (-1), .slice none 0 0] 25) HB2.out.size
  have hB4 := hal.trans (hb4.mono hal.size)
  have D4 := Lib.hid (show Later (fun X => Cs w2.heap.size [.int .i64 (-1), .slice none 0 0] X ∧ Below w.heap.size w X) w4 from fun X hX => ⟨hc4.bl hX, hB4.trans (hX.mono hB4.size)⟩)
  clear hb4 hc4 hal hB4 HB2
  generalize w2.heap.size = br at D4 ⊢
  obtain ⟨W5, hW5⟩ : ∃ W5, w4.alloc (.cells #[.bool false, .int .i64 1, .slice none 0 0, .int .i64 2, .slice (some ⟨br, 0, none⟩) 1 1] 27) = W5 := ⟨_, rfl⟩
  have D5 := Lib.hid (show Later (fun X => Lc w4.heap.size (X9 br) X ∧ Cs br [.int .i64 (-1), .slice none 0 0] X ∧ Below w.heap.size w X) W5 from by rw [← hW5]; exact Later.pushL D4.out (Below.refl _ _) (X9 br))
  have hb0 : w.heap.size ≤ w4.heap.size := D4.out.now.2.size
  obtain ⟨x0, x1, x2, x3, x4⟩ := show (W5.cell? ⟨w4.heap.size, 0, none⟩ = some (.bool false) ∧ W5.cell? ⟨w4.heap.size, 1, none⟩ = some (.int .i64 1) ∧ W5.cell? ⟨w4.heap.size, 2, none⟩ = some (.slice none 0 0) ∧ W5.cell? ⟨w4.heap.size, 3, none⟩ = some (.int .i64 2) ∧ W5.cell? ⟨w4.heap.size, 4, none⟩ = some (.slice (some ⟨br, 0, none⟩) 1 1)) from D5.out.now.1
  go_wp2_with fail
  refine (TC.out br _).mono ?_
  rintro e w6 ⟨rfl, hb6⟩
  clear hW5 x0 x1 x2 x3 x4
  have D6 := Lib.hid (D5.out.mv hb6)
  have hs6 := hb6.size
  have D7 := Lib.hid (show Later (fun X => Lc w6.heap.size (X9 br).turn X ∧ Lc w4.heap.size (X9 br) X ∧ Cs br [.int .i64 (-1), .slice none 0 0] X ∧ Below w.heap.size w X) (w6.alloc (.cells #[.bool false, .int .i64 2, .slice (some ⟨br, 0, none⟩) 1 1, .int .i64 1, .slice none 0 0] 27)) from Later.pushL D6.out (Below.refl _ _) (X9 br).turn)
  clear D4 D5 D6 hb6
  go_wp2
  generalize w6.alloc (.cells #[.bool false, .int .i64 2, .slice (some ⟨br, 0, none⟩) 1 1, .int .i64 1, .slice none 0 0] 27) = W7 at D7 ⊢
  generalize w4.heap.size = ba at *
  generalize w6.heap.size = bb at *
  have KP := Lib.hid (show ∀ W, Below W7.heap.size W7 W → (W.cell? ⟨ba, 0, none⟩ = some (.bool false) ∧ W.cell? ⟨ba, 1, none⟩ = some (.int .i64 1) ∧ W.cell? ⟨ba, 2, none⟩ = some (.slice none 0 0) ∧ W.cell? ⟨ba, 3, none⟩ = some (.int .i64 2) ∧ W.cell? ⟨ba, 4, none⟩ = some (.slice (some ⟨br, 0, none⟩) 1 1)) ∧ ba < W.heap.size from fun W hW => ⟨(D7.out.mv hW).now.2.1, World.block_lt_of_cell? W ⟨ba, 0, none⟩ (D7.out.mv hW).now.2.1.1⟩)
  have OD := Lib.hid (fun (bg : Nat) (W : World) (hW : Below W7.heap.size W7 W) (hG : IsSg W.heap.size W g9 (some ⟨bg, 0, none⟩) 3) => (OC.out br bg W (D7.out.mv hW).now.2.2.1 hG).mono (R' := fun e u => ∃ (aL : Option Addr) (cL : Nat) (aR : Option Addr) (cR : Nat), e = .returned (.tuple #[.agg #[.bool false, .int .i64 2, .slice aL 1 cL, .int .i64 1, .slice aR 0 cR], .int .i64 0]) ∧ Below W7.heap.size W7 u ∧ Below W.heap.size W u ∧ Kp W.heap.size u F9.args aL cL ∧ Kp W.heap.size u A9.args aR cR) fun e u ⟨a, b, c, d, h1, h2, h3, h4⟩ => ⟨a, b, c, d, h1, hW.trans (h2.mono hW.size), h2, h3, h4⟩)
  have TD := Lib.hid (fun (W : World) (hW : Below W7.heap.size W7 W) => (toy9_any W).mono (R' := fun e u => ∃ bg : Nat, e = .returned (.slice (some ⟨bg, 0, none⟩) 3 3) ∧ Below W7.heap.size W7 u ∧ Below W.heap.size W u ∧ Later (fun X => IsSg X.heap.size X g9 (some ⟨bg, 0, none⟩) 3) u) fun e u ⟨bg, h1, h2, h3⟩ => ⟨bg, h1, hW.trans (h2.mono hW.size), h2, h3⟩)
  obtain ⟨⟨x0, x1, x2, x3, x4⟩, hbl⟩ := KP.out W7 (Below.refl _ _)
  go_cut [3, 4] from 12 to 17 (fun v3 v4 wx => Cut9 W7 v3 v4 wx)
  case first =>
    go_region_law (first
      | (go_simp; go_at_call 8; with_reducible refine (OD.out bg _ ?_ (LG.to ?_)).mono ?_; (focus ((repeat (first | exact hB1 | exact Below.refl _ _ | refine blAl ?_ _ | refine blDr ?_)); done)); (focus ((repeat (first | exact Below.refl _ _ | refine blAl ?_ _ | refine blDr ?_)); done)); rintro e u2 ⟨aL, cL, aR, cR, rfl, hB, hu, KL, KR⟩; try (first | (with_reducible have hY := hZ.bl hu) | (with_reducible have hY := hZ.dr.bl hu) | (with_reducible have hY := (Zb.new _ _ _ _ _ _).bl hu) | (with_reducible have hY := (Zb.new _ _ _ _ _ _).dr.bl hu)); try (obtain ⟨v0, v1, v2, v3, v4, z0, z1, z2, z3, z4, q0, q1, q2, q3, q4⟩ := hY.all))
      | (go_simp; go_at_call 24; with_reducible refine (TD.out _ ?_).mono ?_; (focus ((repeat (first | exact Below.refl _ _ | refine blAl ?_ _ | refine blDr ?_)); done)); rintro e u1 ⟨bg, rfl, hB1, hu, LG⟩; obtain ⟨⟨x0, x1, x2, x3, x4⟩, hbl⟩ := KP.out u1 hB1; try (first | (with_reducible have hZ := (Zb.new _ _ _ _ _ _).bl hu) | (with_reducible have hZ := (Zb.new _ _ _ _ _ _).dr.bl hu))))
    all_goals
      go_wp2
      go_meet
      first
        | with_reducible exact cut9_new hB KL KR
        | with_reducible exact cut9_set hY hB (Nat.le_refl _) hZ.lt KL KR
        | with_reducible exact cut9_set hY hB hB1.size (by simp) KL KR
  case rest =>
    obtain ⟨bo, aL, cL, aR, cR, rfl, rfl, hbo, hlo, hzo, hB⟩ := hcut
    have HBO := Lib.hid hbo
    have HLO := Lib.hid hlo
    have HZO := Lib.hid (later_lv hzo)
    have HBC := Lib.hid hB
    have D8 := Lib.hid (D7.out.mv hB)
    clear hlo hzo hB KP OD TD x0 x1 x2 x3 x4 hbl hbo D7
    have KQ := Lib.hid (show ∀ W, Below wc.heap.size wc W → (W.cell? ⟨ba, 0, none⟩ = some (.bool false) ∧ W.cell? ⟨ba, 1, none⟩ = some (.int .i64 1) ∧ W.cell? ⟨ba, 2, none⟩ = some (.slice none 0 0) ∧ W.cell? ⟨ba, 3, none⟩ = some (.int .i64 2) ∧ W.cell? ⟨ba, 4, none⟩ = some (.slice (some ⟨br, 0, none⟩) 1 1)) ∧ (W.cell? ⟨bb, 0, none⟩ = some (.bool false) ∧ W.cell? ⟨bb, 1, none⟩ = some (.int .i64 2) ∧ W.cell? ⟨bb, 2, none⟩ = some (.slice (some ⟨br, 0, none⟩) 1 1) ∧ W.cell? ⟨bb, 3, none⟩ = some (.int .i64 1) ∧ W.cell? ⟨bb, 4, none⟩ = some (.slice none 0 0)) ∧ (W.cell? ⟨bo, 0, none⟩ = some (.bool false) ∧ W.cell? ⟨bo, 1, none⟩ = some (.int .i64 2) ∧ W.cell? ⟨bo, 2, none⟩ = some (.slice aL 1 cL) ∧ W.cell? ⟨bo, 3, none⟩ = some (.int .i64 1) ∧ W.cell? ⟨bo, 4, none⟩ = some (.slice aR 0 cR)) from fun W hW => ⟨(D8.out.mv hW).now.2.1, (D8.out.mv hW).now.1, (hW.cell (p := ⟨bo, 0, none⟩) HBO.out).trans HLO.out.1, (hW.cell (p := ⟨bo, 1, none⟩) HBO.out).trans HLO.out.2.1, (hW.cell (p := ⟨bo, 2, none⟩) HBO.out).trans HLO.out.2.2.1, (hW.cell (p := ⟨bo, 3, none⟩) HBO.out).trans HLO.out.2.2.2.1, (hW.cell (p := ⟨bo, 4, none⟩) HBO.out).trans HLO.out.2.2.2.2⟩)
    have C1 := Lib.hid (fun (W : World) (hW : Below wc.heap.size wc W) => show Calls Tryz.prog 25 #[.agg #[.bool false, .int .i64 1, .slice none 0 0, .int .i64 2, .slice (some ⟨br, 0, none⟩) 1 1], .agg #[.bool false, .int .i64 2, .slice (some ⟨br, 0, none⟩) 1 1, .int .i64 1, .slice none 0 0]] W (fun e u => e = .returned (.bool true) ∧ Below wc.heap.size wc u) from by
      have h := (D8.out.mv hW).now.2.2.1
      have := litSame_any (X9 br) (X9 br).turn ⟨by simp [X9, A9, T.size, T.sizes], by simp [X9, F9, T.size, T.sizes]⟩ W.heap.size W (Nat.le_refl _) (x9_mem h) (x9_mem h).turn
      rw [show samL (X9 br).n (X9 br).l (X9 br).r (X9 br).turn.n (X9 br).turn.l (X9 br).turn.r = true from ex9e] at this
      exact this.mono fun _ _ h => ⟨h.1, hW.trans (h.2.mono hW.size)⟩)
    have C2 := Lib.hid (fun (W : World) (hW : Below wc.heap.size wc W) => show Calls Tryz.prog 11 #[.agg #[.bool false, .int .i64 2, .slice aL 1 cL, .int .i64 1, .slice aR 0 cR], .agg #[.bool false, .int .i64 2, .slice (some ⟨br, 0, none⟩) 1 1, .int .i64 1, .slice none 0 0]] W (fun e u => e = .returned (.bool true) ∧ Below wc.heap.size wc u) from
      (exactAt_any ⟨false, F9, A9, aL, cL, aR, cR⟩ (X9 br).turn rfl rfl rfl ⟨by simp [F9, T.size, T.sizes], by simp [A9, T.size, T.sizes]⟩ W.heap.size W (Nat.le_refl _) (HZO.out.mv hW).now (x9_mem (D8.out.mv hW).now.2.2.1).turn).mono fun _ _ h => ⟨h.1, hW.trans (h.2.mono hW.size)⟩)
    have C3 := Lib.hid (fun (W : World) (hW : Below wc.heap.size wc W) => (toy9_any W).mono (R' := fun e u => ∃ bg : Nat, e = .returned (.slice (some ⟨bg, 0, none⟩) 3 3) ∧ Below wc.heap.size wc u ∧ Later (fun X => IsSg X.heap.size X g9 (some ⟨bg, 0, none⟩) 3) u) fun e u ⟨bg, h1, h2, h3⟩ => ⟨bg, h1, hW.trans (h2.mono hW.size), h3⟩)
    have C4 := Lib.hid (fun (bg : Nat) (W : World) (hW : Below wc.heap.size wc W) (hG : IsSg W.heap.size W g9 (some ⟨bg, 0, none⟩) 3) => show Calls Tryz.prog 13 #[.slice (some ⟨bg, 0, none⟩) 3 3, .agg #[.bool false, .int .i64 1, .slice none 0 0, .int .i64 2, .slice (some ⟨br, 0, none⟩) 1 1]] W (fun e u => e = .returned (.int .i64 0) ∧ Below wc.heap.size wc u) from by
      have := litCheck_any g9 (X9 br) ⟨by simp [X9, A9, T.size, T.sizes], by simp [X9, F9, T.size, T.sizes]⟩ W.heap.size (some ⟨bg, 0, none⟩) 3 W (Nat.le_refl _) hG (x9_mem (D8.out.mv hW).now.2.2.1)
      rw [show errL g9 (X9 br).l (X9 br).r = 0 from ex9a] at this
      exact this.mono fun _ _ h => ⟨h.1, hW.trans (h.2.mono hW.size)⟩)
    have C5 := Lib.hid (fun (W : World) (hW : Below wc.heap.size wc W) => show Calls Tryz.prog 26 #[.agg #[.bool false, .int .i64 0, .slice none 0 0, .int .i64 0, .slice none 0 0]] W (fun e u => e = .returned (.bool true) ∧ Below wc.heap.size wc u) from by
      have := litTrivial_any LV.zero ⟨by simp [LV.zero, T.size, T.sizes], by simp [LV.zero, T.size, T.sizes]⟩ W.heap.size W (Nat.le_refl _) (lv_zero _ _)
      rw [show sameB LV.zero.l LV.zero.r = true from ex9f] at this
      exact this.mono fun _ _ h => ⟨h.1, hW.trans (h.2.mono hW.size)⟩)
    have HFIN := Lib.hid (fun (W : World) (hW : Below wc.heap.size wc W) => (D8.out.mv hW).now.2.2.2)
    clear HBO HLO HZO HBC D8 V0 TC OC
    obtain ⟨⟨x0, x1, x2, x3, x4⟩, ⟨y0, y1, y2, y3, y4⟩, ⟨o0, o1, o2, o3, o4⟩⟩ := KQ.out wc (Below.refl _ _)
    go_wp2
    go_region_law (first
      | (go_simp; go_at_call 26; with_reducible refine (C5.out _ ?_).mono ?_; (focus ((repeat (first | exact h4 | exact Below.refl _ _ | refine blDr ?_)); done)); rintro e u5 ⟨rfl, h5⟩)
      | (go_simp; go_at_call 13; with_reducible refine (C4.out bg _ ?_ (LG.to ?_)).mono ?_; (focus ((repeat (first | exact h3 | exact Below.refl _ _ | refine blDr ?_)); done)); (focus ((repeat (first | exact Below.refl _ _ | exact Below.refl _ _ | refine blDr ?_)); done)); rintro e u4 ⟨rfl, h4⟩; obtain ⟨⟨x0, x1, x2, x3, x4⟩, ⟨y0, y1, y2, y3, y4⟩, ⟨o0, o1, o2, o3, o4⟩⟩ := KQ.out u4 h4)
      | (go_simp; go_at_call 24; with_reducible refine (C3.out _ ?_).mono ?_; (focus ((repeat (first | exact h2 | exact Below.refl _ _ | refine blDr ?_)); done)); rintro e u3 ⟨bg, rfl, h3, LG⟩; obtain ⟨⟨x0, x1, x2, x3, x4⟩, ⟨y0, y1, y2, y3, y4⟩, ⟨o0, o1, o2, o3, o4⟩⟩ := KQ.out u3 h3)
      | (go_simp; go_at_call 11; with_reducible refine (C2.out _ ?_).mono ?_; (focus ((repeat (first | exact h1 | exact Below.refl _ _ | refine blDr ?_)); done)); rintro e u2 ⟨rfl, h2⟩; obtain ⟨⟨x0, x1, x2, x3, x4⟩, ⟨y0, y1, y2, y3, y4⟩, ⟨o0, o1, o2, o3, o4⟩⟩ := KQ.out u2 h2)
      | (go_simp; go_at_call 25; with_reducible refine (C1.out _ ?_).mono ?_; (focus ((repeat (first | exact Below.refl _ _ | exact Below.refl _ _ | refine blDr ?_)); done)); rintro e u1 ⟨rfl, h1⟩; obtain ⟨⟨x0, x1, x2, x3, x4⟩, ⟨y0, y1, y2, y3, y4⟩, ⟨o0, o1, o2, o3, o4⟩⟩ := KQ.out u1 h1))
    all_goals
      go_wp2
      go_ret
      exact ⟨rfl, HFIN.out _ h5⟩

end Go.Proofs.YtleohdddaadbeaaGreat
