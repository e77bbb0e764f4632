/- QBn: joined of Aw10, Fw10, Exb. -/
import Derived.Test.YtbdabdjpgmnejaaQBi
import Derived.Test.YtbdabdjpgmnejaaQBj
import Derived.Test.YtbdabdjpgmnejaaQBm
import Derived.BigQuiet
import Derived.Deep.QuietTactic
import Derived.Lib.QuietBelow
import Derived.Deep.RegionLaw
import Derived.Deep.CutRange
import Derived.Test.YtbdabdjpgmnejaaQBg
import Derived.Test.YtbdabdjpgmnejaaQBe
import Derived.Test.YtbdabdjpgmnejaaQBb
import Derived.Test.YtbdabdjpgmnejaaQBc
import Derived.Test.YtbdabdjpgmnejaaQBd
import Derived.Test.YtbdabdjpgmnejaaQBl
/- The document's example of layer 10. -/
namespace Go.Proofs.Ytbdabdjpgmnejaa
set_option linter.unusedVariables false
set_option linter.unusedSimpArgs false
open Go.RowKit
def V10 : T := .node (-4) []
def F10 : T := .node 2 [V10]
def c10 : List Lt3 := [⟨false, A9, F10⟩, ⟨true, V10, V10⟩, ⟨false, F10, A9⟩]
theorem ex10a : nmE c10 = 0 := by kernel_rfl
theorem ex10b : T.rvs [] (sidesC (nmL c10)) = [0] := by kernel_rfl
theorem ex10c : (tidy c10).length = 1 := by kernel_rfl
theorem ex10d : errC g9 c10 = 0 := by kernel_rfl
theorem ex10e : tauC [⟨false, A9, A9⟩] = true := by kernel_rfl
def X10 (br : Nat) : LV := ⟨false, A9, F10, none, 0, some ⟨br, 0, none⟩, 1⟩
def Y10 : LV := ⟨true, V10, V10, none, 0, none, 0⟩
def P10 (br : Nat) : List LV := [X10 br, Y10, (X10 br).turn]
theorem args10 {br : Nat} {X : World} (h : Cs br [.int .i64 (-4), .slice none 0 0] X) : IsArgs X.heap.size X F10.args (some ⟨br, 0, none⟩) 1 := by
  obtain ⟨h1, h2⟩ := h
  exact ⟨by simp [F10, T.args], by simp [maxLen], .inr ⟨br, 0, rfl, h1, ⟨by decide, h2 0 _ rfl, _, _, h2 1 _ rfl, by simp [V10, T.args], by simp [maxLen], .inl rfl⟩, trivial⟩⟩
theorem x10_mem {br : Nat} {X : World} (h : Cs br [.int .i64 (-4), .slice none 0 0] X) : IsLv X.heap.size X (X10 br) := ⟨(show (Lit.int .i64 1).wf = true from by decide), (show (Lit.int .i64 2).wf = true from by decide), argsA9 X, args10 h⟩
theorem y10_mem (X : World) : IsLv X.heap.size X Y10 := ⟨(show (Lit.int .i64 (-4)).wf = true from by decide), (show (Lit.int .i64 (-4)).wf = true from by decide), ⟨by simp [Y10, V10, T.args], by simp [Y10, maxLen], .inl rfl⟩, ⟨by simp [Y10, V10, T.args], by simp [Y10, maxLen], .inl rfl⟩⟩
/-- A row of literals in a block of its own. -/
theorem cl_cs {b : Nat} {P : List LV} {X : World} (h : Cs b (lcells P) X) (hl : P.length ≤ maxLen) (hp : ∀ x ∈ P, IsLv X.heap.size X x) : IsCl X.heap.size X P (some ⟨b, 0, none⟩) P.length := by
  refine ⟨Nat.le_refl _, hl, .inr ⟨b, 0, rfl, h.1, fun j x hx => ⟨?_, hp x (List.mem_of_getElem? hx)⟩⟩⟩
  obtain ⟨g0, g1, g2, g3, g4⟩ := lcells_get hx
  rw [Nat.zero_add]
  exact ⟨h.2 _ _ g0, h.2 _ _ g1, h.2 _ _ g2, h.2 _ _ g3, h.2 _ _ g4⟩
theorem p10_mem {bc br : Nat} {X : World} (h : Cs bc (lcells (P10 br)) X) (hc : Cs br [.int .i64 (-4), .slice none 0 0] X) : IsCl X.heap.size X (P10 br) (some ⟨bc, 0, none⟩) 3 :=
  cl_cs h (by simp [P10, maxLen]) (fun x hx => by
    simp [P10] at hx
    rcases hx with rfl | rfl | rfl
    · exact x10_mem hc
    · exact y10_mem X
    · exact (x10_mem hc).turn)
theorem toy10_any (w : World) : Calls Try.prog 26 #[] w fun e u => ∃ bg : Nat, e = .returned (.slice (some ⟨bg, 0, none⟩) 3 3) ∧ Below w.heap.size w u ∧ Later (fun X => IsSg X.heap.size X g9 (some ⟨bg, 0, none⟩) 3) u := by
  go_enter Try.func26, Try.ntmps26
  go_wp2
  go_ret
  exact ⟨_, rfl, (Below.refl _ w).alloc (Nat.le_refl _) _, fun X hX => g9_mem ((later_cs w cells9.toArray 64) X hX)⟩
/-- What region 3 leaves: a new variable that holds the literal. -/
def Cut10 (w2 : World) (v3 : Value) (wx : World) : Prop := ∃ bt br : Nat, v3 = .pointer (some ⟨bt, 0, none⟩) ∧ bt < wx.heap.size ∧ Lc bt (X10 br) wx ∧ Cs br [.int .i64 (-4), .slice none 0 0] wx ∧ Below w2.heap.size w2 wx
theorem cut10_new {w2 u : World} {br : Nat} (h1 : Cs br [.int .i64 (-4), .slice none 0 0] u) (hb : Below w2.heap.size w2 u) :
    Cut10 w2 (.pointer (some ⟨u.heap.size, 0, none⟩)) (u.alloc (.cells #[.bool false, .int .i64 1, .slice none 0 0, .int .i64 2, .slice (some ⟨br, 0, none⟩) 1 1] 30)) :=
  ⟨_, br, rfl, by simp, (later_lc u (X10 br)).now, h1.al _, blAl hb _⟩
theorem cut10_set {w2 u : World} {bt br : Nat} (h0 : Zb bt u) (h1 : Cs br [.int .i64 (-4), .slice none 0 0] u) (n1 : br ≠ bt) (n3 : w2.heap.size ≤ bt) (hb : Below w2.heap.size w2 u) :
    Cut10 w2 (.pointer (some ⟨bt, 0, none⟩)) (((((u.setCell ⟨bt, 0, none⟩ (.bool false)).setCell ⟨bt, 1, none⟩ (.int .i64 1)).setCell ⟨bt, 2, none⟩ (.slice none 0 0)).setCell ⟨bt, 3, none⟩ (.int .i64 2)).setCell ⟨bt, 4, none⟩ (.slice (some ⟨br, 0, none⟩) 1 1)) :=
  ⟨bt, br, rfl, (h0.sets _ _ _ _ _).lt, h0.lc (X10 br), ((((h1.set n1).set n1).set n1).set n1).set n1, ((((hb.setCell (p := ⟨bt, 0, none⟩) n3 _).setCell (p := ⟨bt, 1, none⟩) n3 _).setCell (p := ⟨bt, 2, none⟩) n3 _).setCell (p := ⟨bt, 3, none⟩) n3 _).setCell (p := ⟨bt, 4, none⟩) n3 _⟩
theorem zbHave {P : Prop} {W X : World} {b : Nat} (h : Zb b W) (hb : Below W.heap.size W X) (k : Hid (Zb b X) → (∃ v0 v1 v2 v3 v4 : Value, X.cell? ⟨b, 0, none⟩ = some v0 ∧ X.cell? ⟨b, 1, none⟩ = some v1 ∧ X.cell? ⟨b, 2, none⟩ = some v2 ∧ X.cell? ⟨b, 3, none⟩ = some v3 ∧ X.cell? ⟨b, 4, none⟩ = some v4 ∧ X.frozen? ⟨b, 0, none⟩ = false ∧ X.frozen? ⟨b, 1, none⟩ = false ∧ X.frozen? ⟨b, 2, none⟩ = false ∧ X.frozen? ⟨b, 3, none⟩ = false ∧ X.frozen? ⟨b, 4, none⟩ = false) → P) : P := k (Lib.hid (h.bl hb)) (h.bl hb).all
theorem Zb.new' {W : World} {b : Nat} {ob : Obj} (h : W.heap.size = b) (hc : ob = .cells #[.bool false, .int .i64 0, .slice none 0 0, .int .i64 0, .slice none 0 0] 30) : Zb b (W.alloc ob) := by
  subst h; subst hc; exact Zb.new _ _ _ _ _ _
theorem Zb.al {W : World} {b : Nat} (h : Zb b W) (ob : Obj) : Zb b (W.alloc ob) := h.bl ((Below.refl _ _).alloc (Nat.le_refl _) _)
set_option maxRecDepth 100000 in
set_option maxHeartbeats 4000000 in
theorem awake10_any (w : World) : Calls Try.prog 9 #[] w fun e w' => e = .returned (.bool true) ∧ Below w.heap.size w w' := by
  have V3 := Lib.hid (fun (W : World) => show Calls Try.prog 20 #[.int .i64 3] W fun e w' => e = .returned (tm (-4) none 0 0) ∧ Below W.heap.size W w' from refVar_any 3 W (by decide) (by decide))
  have TC := Lib.hid (fun (br : Nat) (W : World) => show Calls Try.prog 21 #[.agg #[.bool false, .int .i64 1, .slice none 0 0, .int .i64 2, .slice (some ⟨br, 0, none⟩) 1 1]] W fun e w' => e = .returned (.agg #[.bool false, .int .i64 2, .slice (some ⟨br, 0, none⟩) 1 1, .int .i64 1, .slice none 0 0]) ∧ Below W.heap.size W w' from turn_any (X10 br) W)
  go_enter Try.func9, Try.ntmps9
  go_wp2_with fail
  refine (fun_any 1 none 0 0 _).mono ?_
  rintro e w1 ⟨rfl, hb1⟩
  have D1 := Lib.hid (Later.below hb1)
  clear hb1
  go_wp2_with fail
  have D2 := Lib.hid (D1.out.pushC (Below.refl _ _) #[.int .i64 1, .slice none 0 0] 28)
  generalize w1.alloc (.cells #[.int .i64 1, .slice none 0 0] 28) = w2 at D2 ⊢
  generalize w1.heap.size = ba at D2 ⊢
  refine (V3.out _).mono ?_
  rintro e w3 ⟨rfl, hb3⟩
  have D3 := Lib.hid (D2.out.mv hb3)
  clear hb3 D1 D2
  go_wp2
  have D4 := Lib.hid (D3.out.pushC (Below.refl _ _) #[.int .i64 (-4), .slice none 0 0] 28)
  generalize w3.alloc (.cells #[.int .i64 (-4), .slice none 0 0] 28) = w4 at D4 ⊢
  generalize w3.heap.size = bx at D4 ⊢
  clear D3
  have KP := Lib.hid (show ∀ W, Below w4.heap.size w4 W → (W.cell? ⟨ba, 0, none⟩ = some (.int .i64 1) ∧ W.cell? ⟨ba, 1, none⟩ = some (.slice none 0 0)) ∧ (W.cell? ⟨bx, 0, none⟩ = some (.int .i64 (-4)) ∧ W.cell? ⟨bx, 1, none⟩ = some (.slice none 0 0)) ∧ ba < W.heap.size ∧ bx < W.heap.size from fun W hW => by
    obtain ⟨⟨h1, h2⟩, ⟨h3, h4⟩, _⟩ := D4.out W hW
    exact ⟨⟨h4 0 _ rfl, h4 1 _ rfl⟩, ⟨h2 0 _ rfl, h2 1 _ rfl⟩, h3, h1⟩)
  obtain ⟨⟨f0, f1⟩, ⟨g0, g1⟩, hba, hbx⟩ := KP.out w4 (Below.refl _ _)
  go_cut [3] from 9 to 14 (fun v3 wx => Cut10 w4 v3 wx)
  case first =>
    --BEGIN
    go_region_law (first | (go_simp; go_at_call 19; with_reducible refine (funk_any 2 _ _ _ _).mono ?_; rintro e u1 ⟨rfl, hk1, hf1, hz1, h1⟩; simp only [World.size_alloc, World.size_drew] at hz1 hk1; have k0 := hk1 ba 0 (by omega); have k1 := hk1 ba 1 (by omega); (have a6 : ba < u1.heap.size := (by omega)); clear hk1 hf1; (try (refine blHave (A := w4) (X := u1) ?_ h1.out ?_; (focus ((repeat (first | exact Below.refl _ _ | refine blDr ?_ | refine blAl ?_ _)); done)); intro rbl1)); (try (refine zbHave (b := w4.heap.size) (X := u1) ?_ h1.out ?_; (focus ((repeat (first | (refine Zb.new' ?_ ?_; (focus (simp; done)); (focus rfl)) | refine Zb.dr ?_ | refine Zb.al ?_ _)); done)); intro yz0 ⟨_, _, _, _, _, y0, y1, y2, y3, y4, z0, z1, z2, z3, z4⟩)); (try (refine zbHave (b := w4.heap.size + 1) (X := u1) ?_ h1.out ?_; (focus ((repeat (first | (refine Zb.new' ?_ ?_; (focus (simp; done)); (focus rfl)) | refine Zb.dr ?_ | refine Zb.al ?_ _)); done)); intro yz1 ⟨_, _, _, _, _, y0, y1, y2, y3, y4, z0, z1, z2, z3, z4⟩)); (try (refine csHave (b := w4.heap.size) (cs := [.int .i64 (-4), .slice none 0 0]) (X := u1) ?_ h1.out ?_; (focus ((repeat (first | (refine Cs.new' ?_; (focus (simp; done))) | refine Cs.dr ?_ | refine Cs.al ?_ _)); done)); intro rc0)); (try (refine csHave (b := w4.heap.size + 1) (cs := [.int .i64 (-4), .slice none 0 0]) (X := u1) ?_ h1.out ?_; (focus ((repeat (first | (refine Cs.new' ?_; (focus (simp; done))) | refine Cs.dr ?_ | refine Cs.al ?_ _)); done)); intro rc1))))
    all_goals
      go_wp2_with fail
      go_meet
      first
        | with_reducible exact cut10_new rc0.out rbl1.out
        | with_reducible exact cut10_new rc1.out rbl1.out
        | with_reducible exact cut10_set yz0.out rc1.out (by omega) (by omega) rbl1.out
        | with_reducible exact cut10_set yz1.out rc0.out (by omega) (by omega) rbl1.out
    --END
  case rest =>
    obtain ⟨bt, br, rfl, hbt, hlt, hcr, hB⟩ := hcut
    obtain ⟨w5, rfl⟩ : ∃ w5, w5 = wc := ⟨_, rfl⟩
    have hLl : Later (fun X => Lc bt (X10 br) X) w5 := fun X hX => by
      obtain ⟨l0, l1, l2, l3, l4⟩ := hlt
      exact ⟨(hX.cell (p := ⟨bt, 0, none⟩) hbt).trans l0, (hX.cell (p := ⟨bt, 1, none⟩) hbt).trans l1, (hX.cell (p := ⟨bt, 2, none⟩) hbt).trans l2, (hX.cell (p := ⟨bt, 3, none⟩) hbt).trans l3, (hX.cell (p := ⟨bt, 4, none⟩) hbt).trans l4⟩
    have D8 := Lib.hid (show Later (fun X => Lc bt (X10 br) X ∧ Cs br [.int .i64 (-4), .slice none 0 0] X ∧ Cs bx [.int .i64 (-4), .slice none 0 0] X ∧ Cs ba [.int .i64 1, .slice none 0 0] X ∧ Below w.heap.size w X) w5 from fun X hX => ⟨hLl X hX, hcr.bl hX, D4.out X (hB.trans (hX.mono hB.size))⟩)
    clear hLl hlt hcr hB KP f0 f1 g0 g1 hba hbx hbt D4
    have KQ := Lib.hid (show ∀ W, Below w5.heap.size w5 W → (W.cell? ⟨bt, 0, none⟩ = some (.bool false) ∧ W.cell? ⟨bt, 1, none⟩ = some (.int .i64 1) ∧ W.cell? ⟨bt, 2, none⟩ = some (.slice none 0 0) ∧ W.cell? ⟨bt, 3, none⟩ = some (.int .i64 2) ∧ W.cell? ⟨bt, 4, none⟩ = some (.slice (some ⟨br, 0, none⟩) 1 1)) ∧ (W.cell? ⟨bx, 0, none⟩ = some (.int .i64 (-4)) ∧ W.cell? ⟨bx, 1, none⟩ = some (.slice none 0 0)) from fun W hW => by
      obtain ⟨h1, _, ⟨_, h4⟩, _⟩ := D8.out W hW
      exact ⟨h1, h4 0 _ rfl, h4 1 _ rfl⟩)
    obtain ⟨⟨l0, l1, l2, l3, l4⟩, g0, g1⟩ := KQ.out w5 (Below.refl _ _)
    have KS := Lib.hid (fun (W : World) (hW : Below w5.heap.size w5 W) => And.intro (KQ.out W hW).1 (And.intro (KQ.out W hW).2 hW))
    go_wp2
    go_cut [4] from 14 to 21 (fun v4 wx => ∃ bc : Nat, v4 = .slice (some ⟨bc, 0, none⟩) 3 3 ∧ Cs bc (lcells (P10 br)) wx ∧ Below w5.heap.size w5 wx)
    case first =>
      refine wp_region_noPanic ?_
      go_region_held3 (fun w' => (w'.cell? ⟨bt, 0, none⟩ = some (.bool false) ∧ w'.cell? ⟨bt, 1, none⟩ = some (.int .i64 1) ∧ w'.cell? ⟨bt, 2, none⟩ = some (.slice none 0 0) ∧ w'.cell? ⟨bt, 3, none⟩ = some (.int .i64 2) ∧ w'.cell? ⟨bt, 4, none⟩ = some (.slice (some ⟨br, 0, none⟩) 1 1)) ∧ (w'.cell? ⟨bx, 0, none⟩ = some (.int .i64 (-4)) ∧ w'.cell? ⟨bx, 1, none⟩ = some (.slice none 0 0)) ∧ Below w5.heap.size w5 w')
        (first
          | with_reducible exact KS.out _ (Below.refl _ _)
          | with_reducible exact KS.out _ (Below.refl _ _).drew
          | with_reducible exact KS.out _ hB1
          | with_reducible exact KS.out _ (blAl hB1 _))
        (first | (go_at_call 21; with_reducible refine (TC.out br _).mono ?_; rintro e u1 ⟨rfl, h1⟩; have hB1 : Below w5.heap.size w5 u1 := (‹_ ∧ _ ∧ Below w5.heap.size w5 _›.2.2).trans (h1.mono (‹_ ∧ _ ∧ Below w5.heap.size w5 _›.2.2).size)))
      all_goals
        refine NoPanic.normal ?_
        go_wp2
        go_meet
        exact ⟨_, rfl, (later_cs u1 (lcells (P10 br)).toArray 30).now, blAl hB1 _⟩
    case rest =>
      obtain ⟨bc, rfl, hcc, hB⟩ := hcut
      have D9 := Lib.hid (show Later (fun X => Cs bc (lcells (P10 br)) X ∧ Cs br [.int .i64 (-4), .slice none 0 0] X ∧ Cs ba [.int .i64 1, .slice none 0 0] X ∧ Below w.heap.size w X) wc from fun X hX => by
        have h := D8.out X (hB.trans (hX.mono hB.size))
        exact ⟨hcc.bl hX, h.2.1, h.2.2.2⟩)
      clear hcc hB KS KQ D8 l0 l1 l2 l3 l4 g0 g1 TC V3
      have LP := Lib.hid (show ∀ W, Below wc.heap.size wc W → IsCl W.heap.size W (P10 br) (some ⟨bc, 0, none⟩) 3 from fun W hW => p10_mem (D9.out W hW).1 (D9.out W hW).2.1)
      have hsz : ∀ x ∈ P10 br, x.sz := fun x hx => by
        simp [P10] at hx
        rcases hx with rfl | rfl | rfl <;> simp [LV.sz, X10, Y10, LV.turn, A9, F10, V10, T.size, T.sizes]
      have C1 := Lib.hid (fun (W : World) (hW : Below wc.heap.size wc W) => show Calls Try.prog 22 #[.slice (some ⟨bc, 0, none⟩) 3 3] W (ClEPost (nmL c10) (nmE c10) W) from cNorm_any (P10 br) (by simp [P10]) (by simp [P10, X10, Y10, LV.turn, LV.t3, sidesC, A9, F10, V10, T.size, T.sizes]) W.heap.size (some ⟨bc, 0, none⟩) 3 W (Nat.le_refl _) (LP.out W hW))
      have C2 := Lib.hid (fun (W : World) (hW : Below wc.heap.size wc W) => show Calls Try.prog 5 #[.slice (some ⟨bc, 0, none⟩) 3 3] W (fun e w' => ∃ (O : List LV) (p : Option Addr) (c' : Nat), t3s O = tidy c10 ∧ e = .returned (.slice p O.length c') ∧ IsCl w'.heap.size w' O p c' ∧ Below W.heap.size W w') from tidy_any (P10 br) (by simp [P10]) hsz W.heap.size (some ⟨bc, 0, none⟩) 3 W (Nat.le_refl _) (LP.out W hW))
      have C3 := Lib.hid (fun (bg : Nat) (W : World) (hW : Below wc.heap.size wc W) (hG : IsSg W.heap.size W g9 (some ⟨bg, 0, none⟩) 3) => show Calls Try.prog 25 #[.slice (some ⟨bg, 0, none⟩) 3 3, .slice (some ⟨bc, 0, none⟩) 3 3] W (fun e w' => e = .returned (.int .i64 (errC g9 c10)) ∧ Below W.heap.size W w') from cCheck_any g9 (P10 br) hsz W.heap.size (some ⟨bg, 0, none⟩) 3 (some ⟨bc, 0, none⟩) 3 W (Nat.le_refl _) hG (LP.out W hW))
      clear hsz
      go_wp2_with fail
      refine (C1.out wc (Below.refl _ _)).mono ?_
      rw [ex10a]
      rintro e w6 ⟨N, pN, cN, hN, rfl, hNc, hb6⟩
      have HB6 := Lib.hid hb6
      have HN := Lib.hid hN
      have HNC := Lib.hid hNc
      clear hN hNc hb6 C1
      go_wp2_with fail
      refine (C2.out w6 HB6.out).mono ?_
      rintro e w7 ⟨O, pO, cO, hO, rfl, _, hb7⟩
      have HB7 := Lib.hid (HB6.out.trans (hb7.mono HB6.out.size))
      have HNC7 := Lib.hid ((HNC.out.below hb7).mono hb7.size)
      rw [show O.length = 1 from by rw [← ex10c, ← hO]; simp]
      clear hO hb7 C2 HNC
      go_wp2_with fail
      have hnl : T.sizes (sidesC (t3s N)) ≤ 100000000000 := by
        rw [HN.out]
        exact Nat.le_trans (nm_size c10) (by simp [c10, sidesC, A9, F10, V10, T.size, T.sizes])
      have hnn : N.length ≤ 1000000 := by
        have h := T.sizes_ge_length (sidesC (t3s N))
        rw [sidesC_length, HN.out] at h
        have h2 := Nat.le_trans h (nm_size c10)
        have h3 : (nmL c10).length = N.length := by rw [← HN.out]; simp
        have h4 : T.sizes (sidesC c10) ≤ 100 := by simp [c10, sidesC, A9, F10, V10, T.size, T.sizes]
        omega
      refine (cVars_any N hnn hnl w7.heap.size pN cN w7 (Nat.le_refl _) HNC7.out).mono ?_
      rw [HN.out, ex10b]
      clear hnl hnn
      rintro e w8 ⟨v8, rfl, hi, hb8⟩
      obtain ⟨p8, c8, rfl, hI8⟩ := ints_sl10 hi
      have HB8 := Lib.hid (HB7.out.trans (hb8.mono HB7.out.size))
      have HI8 := Lib.hid hI8
      have hI0 : IsIs (w8.alloc (.cells #[.int .i64 0] 3)).heap.size (w8.alloc (.cells #[.int .i64 0] 3)) [0] (some ⟨w8.heap.size, 0, none⟩) 1 := by
        have h := (later_cs w8 #[.int .i64 0] 3).now
        refine ⟨by simp, by simp [maxLen], .inr ⟨w8.heap.size, 0, rfl, h.1, fun j z hz => ?_⟩⟩
        match j, hz with
        | 0, hz => simp at hz; subst hz; exact h.2 0 _ rfl
        | j + 1, hz => simp at hz
      have hal : Below w8.heap.size w8 (w8.alloc (.cells #[.int .i64 0] 3)) := (Below.refl _ _).alloc (Nat.le_refl _) _
      have CI := ints_any [0] [0] _ p8 c8 (some ⟨w8.heap.size, 0, none⟩) 1 _ (Nat.le_refl _) ((hI8.below hal).mono hal.size) hI0
      rw [show decide (([0] : List Int) = [0]) = true from rfl] at CI
      have HCI := Lib.hid CI
      have HB9 := Lib.hid (HB8.out.trans (hal.mono HB8.out.size))
      clear hi hI8 hb8 HNC7 hI0 hal CI
      go_wp2_with fail
      refine HCI.out.mono ?_
      rintro e w9 ⟨rfl, hb9⟩
      have HB10 := Lib.hid (HB9.out.trans (hb9.mono HB9.out.size))
      clear hb9 HCI HB9 HI8
      go_wp2_with fail
      refine (toy10_any w9).mono ?_
      rintro e w10 ⟨bg, rfl, hb10, LG⟩
      have HB11 := Lib.hid (HB10.out.trans (hb10.mono HB10.out.size))
      have HLG := Lib.hid LG.now
      clear hb10 LG
      go_wp2_with fail
      refine (C3.out bg w10 HB11.out HLG.out).mono ?_
      rw [ex10d]
      rintro e w11 ⟨rfl, hb11⟩
      have HB12 := Lib.hid (HB11.out.trans (hb11.mono HB11.out.size))
      clear hb11 C3 HLG
      have D12 := D9.out w11 HB12.out
      obtain ⟨_, _, ⟨hba, hbc⟩, hbw⟩ := D12
      have f0 : w11.cell? ⟨ba, 0, none⟩ = some (.int .i64 1) := hbc 0 _ rfl
      have f1 : w11.cell? ⟨ba, 1, none⟩ = some (.slice none 0 0) := hbc 1 _ rfl
      have HBW := Lib.hid hbw
      have hT : Calls Try.prog 27 #[.slice (some ⟨w11.heap.size, 0, none⟩) 1 1] (w11.alloc (.cells #[.bool false, .int .i64 1, .slice none 0 0, .int .i64 1, .slice none 0 0] 30)) (fun e w' => e = .returned (.bool (tauC [⟨false, A9, A9⟩])) ∧ Below (w11.alloc (.cells #[.bool false, .int .i64 1, .slice none 0 0, .int .i64 1, .slice none 0 0] 30)).heap.size (w11.alloc (.cells #[.bool false, .int .i64 1, .slice none 0 0, .int .i64 1, .slice none 0 0] 30)) w') :=
        tautology_any [⟨false, A9, A9, none, 0, none, 0⟩] (fun x hx => by simp at hx; subst hx; simp [LV.sz, A9, T.size, T.sizes]) _ (some ⟨w11.heap.size, 0, none⟩) 1 _ (Nat.le_refl _)
          (cl_cs (P := [⟨false, A9, A9, none, 0, none, 0⟩]) (later_cs w11 #[.bool false, .int .i64 1, .slice none 0 0, .int .i64 1, .slice none 0 0] 30).now (by simp [maxLen]) (fun x hx => by
            simp at hx; subst hx
            exact ⟨(show (Lit.int .i64 1).wf = true from by decide), (show (Lit.int .i64 1).wf = true from by decide), argsA9 _, argsA9 _⟩))
      have HT := Lib.hid hT
      clear hT hbw D9 LP
      go_wp2_with fail
      refine HT.out.mono ?_
      rw [ex10e]
      rintro e w12 ⟨rfl, hb12⟩
      have HF := Lib.hid ((HBW.out.alloc HBW.out.size _).trans (hb12.mono (by simp; have := HBW.out.size; omega)))
      clear hb12 HT
      go_wp2
      go_ret
      exact ⟨rfl, HF.out⟩
end Go.Proofs.Ytbdabdjpgmnejaa

/- Contract of layer 10's few. -/
namespace Go.Proofs.Ytbdabdjpgmnejaa
set_option linter.unusedVariables false
set_option linter.unusedSimpArgs false
open Go.RowKit
/-- A clause with few parts. -/
def FewC (P : List LV) : Prop := P.length ≤ 40 ∧ T.sizes (sidesC (t3s P)) ≤ 500
theorem FewC.sz {P : List LV} (h : FewC P) : ∀ x ∈ P, x.sz := fun x hx => by
  have h2 : ∀ t ∈ sidesC (t3s P), t.size ≤ 500 := fun t ht => Nat.le_trans (mem_sizes ht) h.2
  have : ∀ t, t = x.l ∨ t = x.r → t ∈ sidesC (t3s P) := fun t ht => by
    unfold sidesC
    rw [List.mem_flatten]
    refine ⟨[x.l, x.r], List.mem_map.2 ⟨x.t3, List.mem_map.2 ⟨x, hx, rfl⟩, rfl⟩, by simpa using ht⟩
  have h3 := h2 _ (this _ (.inl rfl))
  have h4 := h2 _ (this _ (.inr rfl))
  exact ⟨by omega, by omega⟩
end Go.Proofs.Ytbdabdjpgmnejaa

/- Contract of the document's Exact of literals, whatever they are. -/
namespace Go.Proofs.Ytbdabdjpgmnejaa
set_option linter.unusedVariables false
set_option linter.unusedSimpArgs false
open Go.RowKit
def exB9 (a b : Lt3) : Bool := (a.neg == b.neg) && sameB a.l b.l && sameB a.r b.r
theorem exB9_iff {a b : Lt3} : exB9 a b = true ↔ a = b := by
  obtain ⟨n, l, r⟩ := a
  obtain ⟨n', l', r'⟩ := b
  unfold exB9
  simp only [Bool.and_eq_true, beq_iff_eq, sameB_iff, Lt3.mk.injEq, and_assoc]
set_option maxRecDepth 100000 in
set_option maxHeartbeats 2000000 in
theorem exactB_any (x y : LV) (hx : x.sz) (hy : y.sz) (n₀ : Nat) (w : World) (hn : n₀ ≤ w.heap.size) (hX : IsLv n₀ w x) (hY : IsLv n₀ w y) :
    Calls Try.prog 6 #[x.v, y.v] w fun e w' => e = .returned (.bool ((x.n == y.n) && sameB x.l y.l && sameB x.r y.r)) ∧ Below w.heap.size w w' := by
  have d0 := (((((Later.below (Below.refl _ w)).and (later_lv (hY.mono hn))).and (later_lv (hX.mono hn))).pushL (Below.refl _ _) x).pushL (Below.refl _ _) y)
  have C1 := Lib.hid (fun (W : World) (hX : IsLv W.heap.size W x) (hY : IsLv W.heap.size W y) => rSame_any x.l y.l hx.1 hy.1 W.heap.size x.pa x.ca y.pa y.ca W (Nat.le_refl _) hX.la hY.la)
  have C2 := Lib.hid (fun (W : World) (hX : IsLv W.heap.size W x) (hY : IsLv W.heap.size W y) => rSame_any x.r y.r hx.2 hy.2 W.heap.size x.pb x.cb y.pb y.cb W (Nat.le_refl _) hX.ra hY.ra)
  simp only [heap_alloc_size] at d0
  have D := Lib.hid d0
  obtain ⟨q0, hq0⟩ : ∃ q, (x.n == y.n) = q := ⟨_, rfl⟩
  have HQ0 := Lib.hid hq0
  clear hX hY d0 hx hy
  go_enter Try.func6, Try.ntmps6
  cases q0 with
  | false =>
    have HR := Lib.hid D.out.now.2.2.2.2
    go_wp2
    go_ret
    exact ⟨by rw [HQ0.out]; rfl, HR.out⟩
  | true =>
    go_wp2_with fail
    generalize (w.alloc x.obj).alloc y.obj = w1 at D ⊢
    generalize hb0 : w.heap.size = b0 at D ⊢
    have HB0 := Lib.hid hb0
    clear hb0 hq0
    refine (C1.out w1 D.out.now.2.2.1 D.out.now.2.2.2.1).mono ?_
    rintro e w2 ⟨rfl, hb⟩
    have D2 := Lib.hid (D.out.mv hb)
    clear hb D C1
    obtain ⟨q1, hq1⟩ : ∃ q, sameB x.l y.l = q := ⟨_, rfl⟩
    have HQ1 := Lib.hid hq1
    rw [hq1]
    clear hq1
    cases q1 with
    | false =>
      have HR := Lib.hid D2.out.now.2.2.2.2
      go_wp2
      go_ret
      exact ⟨by rw [HQ0.out, HQ1.out]; rfl, by rw [HB0.out]; exact HR.out⟩
    | true =>
      obtain ⟨⟨y0, y1, y2, y3, y4⟩, ⟨x0, x1, x2, x3, x4⟩, _⟩ := D2.out.now
      go_wp2_with fail
      refine (C2.out w2 D2.out.now.2.2.1 D2.out.now.2.2.2.1).mono ?_
      clear x0 x1 x2 x3 x4 y0 y1 y2 y3 y4
      rintro e w3 ⟨rfl, hb⟩
      have HQ := Lib.hid (D2.out.mv hb).now.2.2.2.2
      clear hb D2 C2
      obtain ⟨q2, hq2⟩ : ∃ q, sameB x.r y.r = q := ⟨_, rfl⟩
      have HQ2 := Lib.hid hq2
      rw [hq2]
      clear hq2
      go_wp2
      go_ret
      exact ⟨by rw [HQ0.out, HQ1.out, HQ2.out]; cases q2 <;> rfl, by rw [HB0.out]; exact HQ.out⟩
end Go.Proofs.Ytbdabdjpgmnejaa
