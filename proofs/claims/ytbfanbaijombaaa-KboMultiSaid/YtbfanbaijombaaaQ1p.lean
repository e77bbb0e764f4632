/- Q1p: joined of Aw8, Fw7, Lat, Fw5, Fw8. -/
import Derived.Test.YtbfanbaijombaaaKmu
import Derived.Test.YtbfanbaijombaaaQ1h
import Derived.Test.YtbfanbaijombaaaQ1o
import Derived.BigQuiet
import Derived.Deep.QuietTactic
import Derived.Lib.QuietBelow
import Derived.Deep.RegionLaw
import Derived.Deep.RegionHeld3
import Derived.Deep.CutRange
import Derived.Test.YtbfanbaijombaaaQ1c
import Derived.Test.YtbfanbaijombaaaQ1a
import Derived.Test.YtbfanbaijombaaaOrd
/- The document's example of layer 8. -/
namespace Go.Proofs.Ytbfanbaijombaaa
set_option linter.unusedVariables false
set_option linter.unusedSimpArgs false
open Go.RowKit

def g8 : Sg := [sy0, ⟨⟨#[97]⟩, 0, 1, false⟩, ⟨⟨#[102]⟩, 1, 1, false⟩]
def cells8 : List Value := [.string ⟨#[36, 116, 114, 117, 101]⟩, .int .i64 0, .int .i64 1, .bool true, .string ⟨#[97]⟩, .int .i64 0, .int .i64 1, .bool false, .string ⟨#[102]⟩, .int .i64 1, .int .i64 1, .bool false]
theorem g8_mem {b : Nat} {X : World} (h : Cs b cells8 X) : IsSg X.heap.size X g8 (some ⟨b, 0, none⟩) 3 := by
  obtain ⟨h1, h2⟩ := h
  refine ⟨by simp [g8], by simp [maxLen], .inr ⟨b, 0, rfl, h1, fun j x hx => ?_⟩⟩
  match j, hx with
  | 0, hx => simp [g8] at hx; subst hx; exact ⟨⟨by decide, by decide, by decide⟩, h2 0 _ rfl, h2 1 _ rfl, h2 2 _ rfl, h2 3 _ rfl⟩
  | 1, hx => simp [g8] at hx; subst hx; exact ⟨⟨by decide, by decide, by decide⟩, h2 4 _ rfl, h2 5 _ rfl, h2 6 _ rfl, h2 7 _ rfl⟩
  | 2, hx => simp [g8] at hx; subst hx; exact ⟨⟨by decide, by decide, by decide⟩, h2 8 _ rfl, h2 9 _ rfl, h2 10 _ rfl, h2 11 _ rfl⟩
  | j + 3, hx => simp [g8] at hx
def V8 (v : Int) : T := .node (-1 - v) []
def F8 : T := .node 2 [.node (-1) []]
theorem ex8_one : cmpV g8 F8 (V8 0) = .tuple #[.int .i64 1, .int .i64 0] := by kernel_rfl
theorem ex8_two : cmpV g8 F8 (V8 1) = .tuple #[.int .i64 2, .int .i64 0] := by kernel_rfl
theorem ex8_three : mulV g8 [F8, F8] [F8, V8 0] = .tuple #[.int .i64 1, .int .i64 0] := by kernel_rfl

theorem refVar_eq (v : Int) (w : World) (h1 : -9223372036854775808 ≤ v) (h2 : v ≤ 9223372036854775807) :
    Calls Try.prog 29 #[.int .i64 v] w fun e w' => e = .returned (tm (-1 - v) none 0 0) ∧ w.alloc (.cells #[.int .i64 (-1 - v), .slice none 0 0] 25) = w' := by
  go_enter Try.func29, Try.ntmps29
  go_wp2
  exact bodyPost_ret (v := tm (-1 - v) none 0 0) (by simp [results, Try.results29, go_sem]) rfl ⟨rfl, rfl⟩

theorem args8 {br : Nat} {X : World} (h : Cs br [.int .i64 (-1), .slice none 0 0] X) : IsArgs X.heap.size X F8.args (some ⟨br, 0, none⟩) 1 := by
  obtain ⟨h1, h2⟩ := h
  exact ⟨by simp [F8, T.args], by simp [maxLen], .inr ⟨br, 0, rfl, h1, ⟨by decide, h2 0 _ rfl, _, _, h2 1 _ rfl, by simp, by simp [maxLen], .inl rfl⟩, trivial⟩⟩
theorem var8 (v : Int) (X : World) : IsArgs X.heap.size X (V8 v).args none 0 := ⟨by simp [V8, T.args], by simp [maxLen], .inl rfl⟩
theorem rows8 {br b1 b2 : Nat} {X : World} (h : Cs br [.int .i64 (-1), .slice none 0 0] X) (h1 : Cs b1 [.int .i64 2, .slice (some ⟨br, 0, none⟩) 1 1, .int .i64 2, .slice (some ⟨br, 0, none⟩) 1 1] X) (h2 : Cs b2 [.int .i64 2, .slice (some ⟨br, 0, none⟩) 1 1, .int .i64 (-1), .slice none 0 0] X) :
    IsArgs X.heap.size X [F8, F8] (some ⟨b1, 0, none⟩) 2 ∧ IsArgs X.heap.size X [F8, V8 0] (some ⟨b2, 0, none⟩) 2 := by
  have hF := args8 h
  obtain ⟨p1, p2⟩ := h1
  obtain ⟨q1, q2⟩ := h2
  exact ⟨⟨by simp, by simp [maxLen], .inr ⟨b1, 0, rfl, p1, isT_iff.2 ⟨by decide, p2 0 _ rfl, _, _, p2 1 _ rfl, hF⟩, isT_iff.2 ⟨by decide, p2 2 _ rfl, _, _, p2 3 _ rfl, hF⟩, trivial⟩⟩,
    ⟨by simp, by simp [maxLen], .inr ⟨b2, 0, rfl, q1, isT_iff.2 ⟨by decide, q2 0 _ rfl, _, _, q2 1 _ rfl, hF⟩, isT_iff.2 ⟨by decide, q2 2 _ rfl, _, _, q2 3 _ rfl, var8 0 X⟩, trivial⟩⟩⟩

set_option maxRecDepth 100000 in
set_option maxHeartbeats 4000000 in
theorem awake8_any (w : World) : Calls Try.prog 12 #[] w fun e w' => e = .returned (.bool true) ∧ Below w.heap.size w w' := by
  obtain ⟨W1, hW1⟩ : ∃ W1, w.alloc (.cells cells8.toArray 55) = W1 := ⟨_, rfl⟩
  have hB1 : Below w.heap.size w W1 := by rw [← hW1]; exact (Below.refl _ w).alloc (Nat.le_refl _) _
  have HC1 := Lib.hid (show Cs w.heap.size cells8 W1 from by rw [← hW1]; exact (later_cs w cells8.toArray 55).now)
  have HB1 := Lib.hid hB1
  clear hB1
  simp only [cells8] at hW1
  go_enter Try.func12, Try.ntmps12
  go_wp2_with fail
  refine (refVar_eq 0 _ (by decide) (by decide)).mono ?_
  rintro e w2 ⟨rfl, rfl⟩
  obtain ⟨W2, hW2⟩ : ∃ W2, W1.alloc (.cells #[.int .i64 (-1 - 0), .slice none 0 0] 25) = W2 := ⟨_, rfl⟩
  rw [hW2]
  have HB2 := Lib.hid (show Below w.heap.size w W2 from by rw [← hW2]; exact HB1.out.alloc HB1.out.size _)
  have HC2 := Lib.hid (show Cs w.heap.size cells8 W2 from by rw [← hW2]; exact Cs.bl HC1.out ((Below.refl _ _).alloc (Nat.le_refl _) _))
  clear hW1 hW2 HB1 HC1
  have HR3 := Lib.hid (show Cs W2.heap.size [.int .i64 (-1), .slice none 0 0] (W2.alloc (.cells #[.int .i64 (-1), .slice none 0 0] 25)) from (later_cs W2 #[.int .i64 (-1), .slice none 0 0] 25).now)
  have HB3 := Lib.hid (show Below w.heap.size w (W2.alloc (.cells #[.int .i64 (-1), .slice none 0 0] 25)) from HB2.out.alloc HB2.out.size _)
  have HC3 := Lib.hid (show Cs w.heap.size cells8 (W2.alloc (.cells #[.int .i64 (-1), .slice none 0 0] 25)) from HC2.out.bl ((Below.refl _ _).alloc (Nat.le_refl _) _))
  clear HC2 HB2
  go_wp2_with fail
  refine (fun_any 2 (some ⟨W2.heap.size, 0, none⟩) 1 1 _).mono ?_
  rintro e w3 ⟨rfl, hb3⟩
  obtain ⟨W4, hW4⟩ : ∃ W4, w3.alloc (.cells #[.int .i64 2, .slice (some ⟨W2.heap.size, 0, none⟩) 1 1] 25) = W4 := ⟨_, rfl⟩
  have hal : Below w3.heap.size w3 W4 := by rw [← hW4]; exact (Below.refl _ _).alloc (Nat.le_refl _) _
  have KS := Lib.hid (show ∀ W, Below W4.heap.size W4 W → Cs w.heap.size cells8 W ∧ Cs W2.heap.size [.int .i64 (-1), .slice none 0 0] W ∧ Cs w3.heap.size [.int .i64 2, .slice (some ⟨W2.heap.size, 0, none⟩) 1 1] W ∧ Below w.heap.size w W from fun W hW => by
    have h3 : Below w3.heap.size w3 W := hal.trans (hW.mono hal.size)
    refine ⟨(HC3.out.bl hb3).bl h3, (HR3.out.bl hb3).bl h3, ?_, (HB3.out.trans (hb3.mono HB3.out.size)).trans (h3.mono (Nat.le_trans HB3.out.size hb3.size))⟩
    have : Cs w3.heap.size [.int .i64 2, .slice (some ⟨W2.heap.size, 0, none⟩) 1 1] W4 := by rw [← hW4]; exact (later_cs w3 #[.int .i64 2, .slice (some ⟨W2.heap.size, 0, none⟩) 1 1] 25).now
    exact this.bl hW)
  generalize W2.heap.size = br at *
  generalize hbt : w3.heap.size = bt at *
  have HW4 := Lib.hid hW4
  clear hb3 hal HR3 HB3 HC3
  have C1 := Lib.hid (fun (W : World) (hW : Below W4.heap.size W4 W) => show Calls Try.prog 10 #[.slice (some ⟨w.heap.size, 0, none⟩) 3 3, tm 2 (some ⟨br, 0, none⟩) 1 1, tm (-1) none 0 0] W fun e w' => e = .returned (.tuple #[.int .i64 1, .int .i64 0]) ∧ Below W.heap.size W w' from by
    obtain ⟨k1, k2, k3, k4⟩ := KS.out W hW
    have := kCompare_any g8 F8 (V8 0) (by simp [F8, T.size, T.sizes]) (by simp [V8, T.size, T.sizes]) W.heap.size (some ⟨w.heap.size, 0, none⟩) 3 (some ⟨br, 0, none⟩) 1 none 0 W (Nat.le_refl _) (g8_mem k1) (by decide) (by decide) (args8 k2) (var8 0 W)
    rw [ex8_one] at this
    exact this)
  have C2 := Lib.hid (fun (W : World) (hW : Below W4.heap.size W4 W) => show Calls Try.prog 10 #[.slice (some ⟨w.heap.size, 0, none⟩) 3 3, tm 2 (some ⟨br, 0, none⟩) 1 1, tm (-2) none 0 0] W fun e w' => e = .returned (.tuple #[.int .i64 2, .int .i64 0]) ∧ Below W.heap.size W w' from by
    obtain ⟨k1, k2, k3, k4⟩ := KS.out W hW
    have := kCompare_any g8 F8 (V8 1) (by simp [F8, T.size, T.sizes]) (by simp [V8, T.size, T.sizes]) W.heap.size (some ⟨w.heap.size, 0, none⟩) 3 (some ⟨br, 0, none⟩) 1 none 0 W (Nat.le_refl _) (g8_mem k1) (by decide) (by decide) (args8 k2) (var8 1 W)
    rw [ex8_two] at this
    exact this)
  have C3 := Lib.hid (fun (W : World) (hW : Below W4.heap.size W4 W) (b1 b2 : Nat) (h1 : Cs b1 [.int .i64 2, .slice (some ⟨br, 0, none⟩) 1 1, .int .i64 2, .slice (some ⟨br, 0, none⟩) 1 1] W) (h2 : Cs b2 [.int .i64 2, .slice (some ⟨br, 0, none⟩) 1 1, .int .i64 (-1), .slice none 0 0] W) =>
    show Calls Try.prog 13 #[.slice (some ⟨w.heap.size, 0, none⟩) 3 3, .slice (some ⟨b1, 0, none⟩) 2 2, .slice (some ⟨b2, 0, none⟩) 2 2] W fun e w' => e = .returned (.tuple #[.int .i64 1, .int .i64 0]) ∧ Below W.heap.size W w' from by
    obtain ⟨k1, k2, k3, k4⟩ := KS.out W hW
    obtain ⟨r1, r2⟩ := rows8 k2 h1 h2
    have := multi_any g8 [F8, F8] [F8, V8 0] (by simp) (by simp) (by simp [F8, T.size, T.sizes]) (by simp [F8, V8, T.size, T.sizes]) W.heap.size (some ⟨w.heap.size, 0, none⟩) 3 (some ⟨b1, 0, none⟩) 2 (some ⟨b2, 0, none⟩) 2 W (Nat.le_refl _) (g8_mem k1) r1 r2
    rw [ex8_three] at this
    exact this)
  have V0 := Lib.hid (fun (W : World) => show Calls Try.prog 29 #[.int .i64 0] W fun e w' => e = .returned (tm (-1) none 0 0) ∧ Below W.heap.size W w' from refVar_any 0 W (by decide) (by decide))
  have V1 := Lib.hid (fun (W : World) => show Calls Try.prog 29 #[.int .i64 1] W fun e w' => e = .returned (tm (-2) none 0 0) ∧ Below W.heap.size W w' from refVar_any 1 W (by decide) (by decide))
  obtain ⟨_, _, ⟨_, k3⟩, _⟩ := KS.out W4 (Below.refl _ _)
  have x0 : W4.cell? ⟨bt, 0, none⟩ = some (.int .i64 2) := k3 0 _ rfl
  have x1 : W4.cell? ⟨bt, 1, none⟩ = some (.slice (some ⟨br, 0, none⟩) 1 1) := k3 1 _ rfl
  clear k3
  go_wp2
  have f0 := fun d os => cell_regrown x0 d os
  have f1 := fun d os => cell_regrown x1 d os
  refine wp_region_quiet_below (by kernel_rfl) (by kernel_rfl) ?_
  repeat (quiet_step (first | with_reducible exact Calls.regrown_of (V0.out _) | with_reducible exact Calls.regrown_of (C1.out _ (below_regrown _ _ _))))
  refine wpQuiet_nil ?_
  intro _ hw'
  obtain ⟨⟨dq, osq⟩, hw''⟩ := hw'
  subst hw''
  dsimp only
  have hb5 : Below W4.heap.size W4 (Go.Sort.grow (redrawn W4 dq) osq) := below_regrown W4 dq osq
  generalize Go.Sort.grow (redrawn W4 dq) osq = W5 at hb5 ⊢
  have y0 : W5.cell? ⟨bt, 0, none⟩ = some (.int .i64 2) := (hb5.cell (p := ⟨bt, 0, none⟩) (World.block_lt_of_cell? W4 ⟨bt, 0, none⟩ x0)).trans x0
  have y1 : W5.cell? ⟨bt, 1, none⟩ = some (.slice (some ⟨br, 0, none⟩) 1 1) := (hb5.cell (p := ⟨bt, 1, none⟩) (World.block_lt_of_cell? W4 ⟨bt, 0, none⟩ x0)).trans x1
  have D2 := Lib.hid (fun (W : World) (hW : Below W5.heap.size W5 W) => C2.out W (hb5.trans (hW.mono hb5.size)))
  have HB5 := Lib.hid hb5
  clear hb5 x0 x1 f0 f1 hW4
  go_wp2
  have f0 := fun d os => cell_regrown y0 d os
  have f1 := fun d os => cell_regrown y1 d os
  refine wp_region_quiet_below (by kernel_rfl) (by kernel_rfl) ?_
  repeat (quiet_step (first | with_reducible exact Calls.regrown_of (V1.out _) | with_reducible exact Calls.regrown_of (D2.out _ (below_regrown _ _ _))))
  refine wpQuiet_nil ?_
  intro _ hw'
  obtain ⟨⟨dq, osq⟩, hw''⟩ := hw'
  subst hw''
  dsimp only
  have hb6 : Below W5.heap.size W5 (Go.Sort.grow (redrawn W5 dq) osq) := below_regrown W5 dq osq
  generalize Go.Sort.grow (redrawn W5 dq) osq = W6 at hb6 ⊢
  have z0 : W6.cell? ⟨bt, 0, none⟩ = some (.int .i64 2) := (hb6.cell (p := ⟨bt, 0, none⟩) (World.block_lt_of_cell? W5 ⟨bt, 0, none⟩ y0)).trans y0
  have z1 : W6.cell? ⟨bt, 1, none⟩ = some (.slice (some ⟨br, 0, none⟩) 1 1) := (hb6.cell (p := ⟨bt, 1, none⟩) (World.block_lt_of_cell? W5 ⟨bt, 0, none⟩ y0)).trans y1
  have hbt6 : bt < W6.heap.size := World.block_lt_of_cell? W6 ⟨bt, 0, none⟩ z0
  have hb46 : Below W4.heap.size W4 W6 := HB5.out.trans (hb6.mono HB5.out.size)
  have D3 := Lib.hid (fun (W : World) (hW : Below W6.heap.size W6 W) (b1 b2 : Nat) (h1 : Cs b1 [.int .i64 2, .slice (some ⟨br, 0, none⟩) 1 1, .int .i64 2, .slice (some ⟨br, 0, none⟩) 1 1] W) (h2 : Cs b2 [.int .i64 2, .slice (some ⟨br, 0, none⟩) 1 1, .int .i64 (-1), .slice none 0 0] W) =>
    (C3.out W (hb46.trans (hW.mono hb46.size)) b1 b2 h1 h2).mono (R' := fun e w' => e = .returned (.tuple #[.int .i64 1, .int .i64 0]) ∧ Below W6.heap.size W6 w') fun _ _ h => ⟨h.1, hW.trans (h.2.mono hW.size)⟩)
  have HB6 := Lib.hid (KS.out W6 hb46).2.2.2
  clear hb6 hb46 y0 y1 f0 f1 D2 C1 C2 C3 V1 KS HW4 HB5
  go_wp2
  have KQ := Lib.hid (show ∀ W, Below W6.heap.size W6 W → W.cell? ⟨bt, 0, none⟩ = some (.int .i64 2) ∧ W.cell? ⟨bt, 1, none⟩ = some (.slice (some ⟨br, 0, none⟩) 1 1) ∧ Below W6.heap.size W6 W from fun W hW =>
    ⟨(hW.cell (p := ⟨bt, 0, none⟩) hbt6).trans z0, (hW.cell (p := ⟨bt, 1, none⟩) hbt6).trans z1, hW⟩)
  refine wp_region_noPanic ?_
  go_region_held3 (fun w' => w'.cell? ⟨bt, 0, none⟩ = some (.int .i64 2) ∧ w'.cell? ⟨bt, 1, none⟩ = some (.slice (some ⟨br, 0, none⟩) 1 1) ∧ Below W6.heap.size W6 w')
    (first
      | exact KQ.out _ (Below.refl _ _)
      | exact KQ.out _ h2
      | (refine KQ.out _ ?_; focus ((repeat (first | exact Below.refl _ _ | refine blAl ?_ _ | refine blDr ?_)); done)))
    (first
      | (go_at_call 29; with_reducible refine (refVar_eq 0 _ (by decide) (by decide)).mono ?_; rintro e u1 ⟨rfl, rfl⟩)
      | (go_at_call 13; with_reducible refine (D3.out _ ?_ _ _ ?_ ?_).mono ?_; (focus ((repeat (first | exact Below.refl _ _ | refine blAl ?_ _ | refine blDr ?_)); done)); (focus ((repeat (first | (refine Cs.new' ?_; (focus (simp; done))) | refine Cs.dr ?_ | refine Cs.al ?_ _)); done)); (focus ((repeat (first | (refine Cs.new' ?_; (focus (simp; done))) | refine Cs.dr ?_ | refine Cs.al ?_ _)); done)); rintro e u2 ⟨rfl, h2⟩))
  all_goals
    refine NoPanic.normal ?_
    go_wp2
    go_ret
    exact ⟨rfl, HB6.out.trans (h2.mono HB6.out.size)⟩

end Go.Proofs.Ytbfanbaijombaaa

/- Contract of the reference's Few at signatures. -/
namespace Go.Proofs.Ytbfanbaijombaaa
set_option linter.unusedVariables false
set_option linter.unusedSimpArgs false
open Go.RowKit

def FgI (g : Sg) (w : World) (i : Value) (wr : World) : Prop := ∃ k : Nat, k ≤ g.length ∧ i = .int .i64 k ∧ Below w.heap.size w wr
def FgPost (w : World) (e : Ending) (w' : World) : Prop := ∃ b : Bool, e = .returned (.bool b) ∧ Below w.heap.size w w'

set_option maxRecDepth 100000 in
set_option maxHeartbeats 2000000 in
theorem fewG_any (g : Sg) (n₀ : Nat) (a : Option Addr) (c : Nat) (w : World) (hn : n₀ ≤ w.heap.size) (hG : IsSg n₀ w g a c) :
    Calls Try.prog 22 #[.slice a g.length c] w (FgPost w) := by
  have hlc : g.length ≤ c ∧ c ≤ maxLen := ⟨hG.1, hG.2.1⟩
  unfold maxLen at hlc
  obtain ⟨hl1, hl2⟩ := hlc
  have HG := Lib.hid hG
  clear hG
  go_enter Try.func22, Try.ntmps22
  go_wp2
  go_loopw [3] (fun i wr => FgI g w i wr) (fun i _ => g.length - (intOf i).toNat)
  case atStart => exact ⟨0, Nat.zero_le _, rfl, Below.refl _ _⟩
  case round =>
    obtain ⟨k, hk, rfl, hB⟩ := hrel
    have HB := Lib.hid hB
    have hbz := hB.size
    by_cases hlt : k < g.length
    · obtain ⟨b, o, x, rfl, hbn, hs, hxw, hc0, hc1, hc2, hc3⟩ := (HG.out.below (hB.mono hn)).elem (i := k) hlt
      have hk0 : (0 : Int) ≤ (k : Int) := Int.natCast_nonneg _
      have hk1 : (k : Int) < (g.length : Int) := by omega
      have hxs := hxw.1
      unfold maxLen at hxs
      clear hs hxw hB
      by_cases q : 300 < g.length
      · go_wp2
        all_goals (go_ret; exact ⟨_, rfl, HB.out⟩)
      · by_cases q2 : 100 < x.name.size
        · go_wp2
          all_goals (go_ret; exact ⟨_, rfl, HB.out⟩)
        · go_wp2
          go_roundw
          case rel => exact ⟨k + 1, by omega, by go_num, HB.out⟩
          case measure => simp [intOf]; omega
    · obtain rfl : k = g.length := by omega
      clear hB
      go_wp2
      all_goals (go_ret; exact ⟨_, rfl, HB.out⟩)

end Go.Proofs.Ytbfanbaijombaaa

/- Lat: a term equal to itself, by the reference. -/
namespace Go.Proofs.Ytbfanbaijombaaa
set_option linter.unusedVariables false
set_option linter.unusedSimpArgs false
open Go.RowKit

theorem sameAt_any (x y : T) (h : x = y) (hs : x.size ≤ 1000000000000) (n₀ : Nat) (a : Option Addr) (c : Nat) (a' : Option Addr) (c' : Nat) (w : World) (hn : n₀ ≤ w.heap.size) (hA : IsArgs n₀ w x.args a c) (hB : IsArgs n₀ w y.args a' c') :
    Calls Try.prog 53 #[tm x.head a x.args.length c, tm y.head a' y.args.length c'] w fun e w' => e = .returned (.bool true) ∧ Below w.heap.size w w' := by
  subst h
  refine (refSame_any x x hs hs n₀ a c a' c' w hn hA hB).mono fun e w' hh => ⟨?_, hh.2⟩
  rw [hh.1, T.cmp_self]; rfl


end Go.Proofs.Ytbfanbaijombaaa

/- Contract of Few (layer 5): rows of terms with at most 500 parts. -/
namespace Go.Proofs.Ytbfanbaijombaaa
set_option linter.unusedVariables false
set_option linter.unusedSimpArgs false
open Go.RowKit

def Few5I (ts : List T) (w : World) (n i : Value) (wr : World) : Prop := ∃ k m : Nat, k ≤ ts.length ∧ i = .int .i64 k ∧ n = .int .i64 (m : Int) ∧ m ≤ 1001 ∧ (m ≤ 500 → T.sizes (ts.take k) ≤ m) ∧ Below w.heap.size w wr
def Few5Post (ts : List T) (w : World) (e : Ending) (w' : World) : Prop := ∃ b : Bool, e = .returned (.bool b) ∧ (b = true → T.sizes ts ≤ 500) ∧ Below w.heap.size w w'
theorem sizes_take_succ {ts : List T} {k : Nat} {s : T} (h : ts[k]? = some s) : T.sizes (ts.take (k + 1)) = T.sizes (ts.take k) + s.size := by
  obtain ⟨hk, e⟩ := List.getElem?_eq_some_iff.1 h
  rw [List.take_succ_eq_append_getElem hk, e, T.sizes_append]
  simp [T.sizes]

set_option maxRecDepth 100000 in
set_option maxHeartbeats 1000000 in
theorem few5_any (ts : List T) (n₀ : Nat) (a : Option Addr) (c : Nat) (w : World) (hn : n₀ ≤ w.heap.size) (hA : IsArgs n₀ w ts a c) :
    Calls Try.prog 23 #[.slice a ts.length c] w (Few5Post ts w) := by
  have hl : ts.length ≤ c ∧ c ≤ maxLen := ⟨hA.1, hA.2.1⟩
  unfold maxLen at hl
  obtain ⟨hl1, hl2⟩ := hl
  have HA := Lib.hid hA
  clear hA
  go_enter Try.func23, Try.ntmps23
  go_wp2
  go_loopw [3, 4] (fun n i wr => Few5I ts w n i wr) (fun _ i _ => ts.length - (intOf i).toNat)
  case atStart => exact ⟨0, 0, Nat.zero_le _, rfl, rfl, by omega, by simp [T.sizes], Below.refl _ _⟩
  case round =>
    obtain ⟨k, m, hk, rfl, rfl, hm, hall, hB⟩ := hrel
    have HB := Lib.hid hB
    have HALL := Lib.hid hall
    have hbz := hB.size
    clear hB hall
    by_cases hlt : k < ts.length
    · have hk0 : (0 : Int) ≤ (k : Int) := Int.natCast_nonneg _
      have hk1 : (k : Int) < (ts.length : Int) := by omega
      by_cases hm60 : m ≤ 500
      · have hmi : (m : Int) ≤ 500 := by omega
        obtain ⟨b, o, s, a', c', rfl, hbn, hs, hswf, hc1, hc2, hA'⟩ := (HA.out.below (HB.out.mono hn)).elem (i := k) hlt
        have hbw : b < wr.heap.size := by omega
        have CN := Lib.hid (count_any s.size s (Nat.le_refl _) 500 n₀ a' c' wr (by omega) (by omega) hA')
        have HS := Lib.hid hs
        clear hs hswf hA'
        go_wp2_with fail
        refine CN.out.mono ?_
        rintro e w2 ⟨rfl, hb2⟩
        have HB2 := Lib.hid (HB.out.trans (hb2.mono hbz))
        obtain ⟨q, hq⟩ : ∃ q, min s.size (500 + 1) = q := ⟨_, rfl⟩
        rw [hq]
        have hq1 : q ≤ 501 := by omega
        have HQ := Lib.hid hq
        clear hb2 hq
        go_wp2
        go_roundw
        case rel =>
          refine ⟨k + 1, m + q, by omega, by go_num, by go_num, by omega, fun hle => ?_, HB2.out⟩
          rw [sizes_take_succ HS.out]
          have := HALL.out hm60
          have := HQ.out
          omega
        case measure => simp [intOf]; omega
      · have hmi : ¬ ((m : Int) ≤ 500) := by omega
        go_wp2
        go_ret
        exact ⟨false, by simp <;> omega, by simp, HB.out⟩
    · obtain rfl : k = ts.length := by omega
      go_wp2
      go_ret
      refine ⟨decide ((m : Int) ≤ 500), rfl, fun h => ?_, HB.out⟩
      have hm60 : m ≤ 500 := by have := of_decide_eq_true h; omega
      have := HALL.out hm60
      rw [List.take_length] at this
      omega
theorem mem_sizes {ts : List T} {t : T} (h : t ∈ ts) : t.size ≤ T.sizes ts := by
  obtain ⟨i, hi⟩ := List.getElem?_of_mem h
  have := T.size_lt_of_mem hi
  omega


end Go.Proofs.Ytbfanbaijombaaa

/- Contract of the laws' few (layer 8): a signature and a row of terms. -/
namespace Go.Proofs.Ytbfanbaijombaaa
set_option linter.unusedVariables false
set_option linter.unusedSimpArgs false
open Go.RowKit

set_option maxRecDepth 100000 in
set_option maxHeartbeats 2000000 in
theorem few8_any (g : Sg) (ts : List T) (n₀ : Nat) (ga : Option Addr) (gc : Nat) (a : Option Addr) (c : Nat) (w : World) (hn : n₀ ≤ w.heap.size) (hG : IsSg n₀ w g ga gc) (hA : IsArgs n₀ w ts a c) :
    Calls Try.prog 9 #[.slice ga g.length gc, .slice a ts.length c] w (Few5Post ts w) := by
  have HA := Lib.hid hA
  have CG := Lib.hid (fewG_any g n₀ ga gc w hn hG)
  have CF := Lib.hid (fun (W : World) (hW : Below w.heap.size w W) => few5_any ts n₀ a c W (Nat.le_trans hn hW.size) (hA.below (hW.mono hn)))
  clear hA hG
  go_enter Try.func9, Try.ntmps9
  go_wp2_with fail
  refine CG.out.mono ?_
  rintro e w1 ⟨b, rfl, hb1⟩
  have B1 := Lib.hid hb1
  clear hb1
  cases b with
  | false =>
    go_wp2
    go_ret
    exact ⟨false, rfl, by simp, B1.out⟩
  | true =>
    go_wp2_with fail
    refine (CF.out w1 B1.out).mono ?_
    rintro e w2 ⟨b, rfl, hf, hb2⟩
    have B2 := Lib.hid (B1.out.trans (hb2.mono B1.out.size))
    have HF := Lib.hid hf
    clear hb2 hf
    go_wp2
    go_ret
    exact ⟨b, rfl, HF.out, B2.out⟩

theorem row_of3 {b : Nat} {x y z : T} {a a' a'' : Option Addr} {c c' c'' : Nat} {X : World} (hx : Cs b [.int .i64 x.head, .slice a x.args.length c, .int .i64 y.head, .slice a' y.args.length c', .int .i64 z.head, .slice a'' z.args.length c''] X) (hxw : (Lit.int .i64 x.head).wf = true) (hyw : (Lit.int .i64 y.head).wf = true) (hzw : (Lit.int .i64 z.head).wf = true) (hA : IsArgs X.heap.size X x.args a c) (hB : IsArgs X.heap.size X y.args a' c') (hC : IsArgs X.heap.size X z.args a'' c'') : IsArgs X.heap.size X [x, y, z] (some ⟨b, 0, none⟩) 3 := by
  obtain ⟨hx, cx⟩ := hx
  exact ⟨by simp, by simp [maxLen], .inr ⟨b, 0, rfl, hx, isT_iff.2 ⟨hxw, cx 0 _ rfl, _, _, cx 1 _ rfl, hA⟩, isT_iff.2 ⟨hyw, cx 2 _ rfl, _, _, cx 3 _ rfl, hB⟩, isT_iff.2 ⟨hzw, cx 4 _ rfl, _, _, cx 5 _ rfl, hC⟩, trivial⟩⟩
theorem row_of2 {b : Nat} {x y : T} {a a' : Option Addr} {c c' : Nat} {X : World} (hx : Cs b [.int .i64 x.head, .slice a x.args.length c, .int .i64 y.head, .slice a' y.args.length c'] X) (hxw : (Lit.int .i64 x.head).wf = true) (hyw : (Lit.int .i64 y.head).wf = true) (hA : IsArgs X.heap.size X x.args a c) (hB : IsArgs X.heap.size X y.args a' c') : IsArgs X.heap.size X [x, y] (some ⟨b, 0, none⟩) 2 := by
  obtain ⟨hx, cx⟩ := hx
  exact ⟨by simp, by simp [maxLen], .inr ⟨b, 0, rfl, hx, isT_iff.2 ⟨hxw, cx 0 _ rfl, _, _, cx 1 _ rfl, hA⟩, isT_iff.2 ⟨hyw, cx 2 _ rfl, _, _, cx 3 _ rfl, hB⟩, trivial⟩⟩
theorem row_of1 {b : Nat} {x : T} {a : Option Addr} {c : Nat} {X : World} (hx : Cs b [.int .i64 x.head, .slice a x.args.length c] X) (hxw : (Lit.int .i64 x.head).wf = true) (hA : IsArgs X.heap.size X x.args a c) : IsArgs X.heap.size X [x] (some ⟨b, 0, none⟩) 1 := by
  obtain ⟨hx, cx⟩ := hx
  exact ⟨by simp, by simp [maxLen], .inr ⟨b, 0, rfl, hx, isT_iff.2 ⟨hxw, cx 0 _ rfl, _, _, cx 1 _ rfl, hA⟩, trivial⟩⟩

end Go.Proofs.Ytbfanbaijombaaa
