/- Contract of layer 4's awake. -/
import Derived.Test.YtcbjnfdhghhgeaaUme
import Derived.Test.YtcbjnfdhghhgeaaQ1i
import Derived.Test.YtcbjnfdhghhgeaaQ1j
import Derived.Deep.CutRange
namespace Go.Proofs.Ytcbjnfdhghhgeaa
set_option linter.unusedVariables false
set_option linter.unusedSimpArgs false
open Go.RowKit

def F4 : T := .node 3 [.node (-2) []]
def X4 : T := .node 4 [.node (-1) [], F4]
def Y4 : T := .node 4 [F4, .node (-1) []]
def S4 : Sb := [(0, F4)]
theorem mgu4 : IsMgu (fun θ => X4.sub θ = Y4.sub θ) S4 := by
  have hX : ∀ θ : Int → T, X4.sub θ = .node 4 [θ 0, .node 3 [θ 1]] := fun θ => rfl
  have hY : ∀ θ : Int → T, Y4.sub θ = .node 4 [.node 3 [θ 1], θ 0] := fun θ => rfl
  refine ⟨by simp [S4], by simp [S4], ?_, ?_, ?_, ?_, fun θ hθ v h0 h1 => ?_⟩
  · intro p hp; simp [S4] at hp; subst hp; rfl
  · intro p hp q hq hn
    simp [S4] at hp
    subst hp
    simp [F4, T.subs, T.subss] at hq
    rcases hq with rfl | rfl
    · simp [T.head] at hn
    · rfl
  · intro p hp hn
    simp [S4] at hp
    subst hp
    simp [F4, T.head] at hn
  · rfl
  · rw [hX, hY] at hθ
    simp only [T.node.injEq, List.cons.injEq, true_and, and_true] at hθ
    by_cases e : v = 0
    · subst e
      exact hθ.1
    · have : ofS S4 v = vt v := by simp [S4, ofS]; intro e2; exact absurd e2.symm e
      rw [this, T.sub_neg (by rw [vt_head]; omega), vt_head, show -1 - (-1 - v) = v from by omega]
theorem none4 (θ : Int → T) : F4.sub θ ≠ (T.node (-2) []).sub θ := fun h => by
  have h1 : F4.sub θ = .node 3 [θ 1] := rfl
  have h2 : (T.node (-2) []).sub θ = θ 1 := rfl
  rw [h1, h2] at h
  have := congrArg T.size h
  simp [T.size, T.sizes] at this
theorem res4 {w w' : World} {e : Ending} (h : MguPost X4 Y4 w e w') : SBPost S4 true 0 w e w' := by
  rcases h with ⟨hb, _⟩ | ⟨_, ⟨hn, _⟩ | ⟨s, hM, ⟨he, _⟩ | ⟨_, h⟩⟩⟩
  · rcases hb with hb | hb <;> exact absurd rfl hb
  · exact absurd rfl (hn (ofS S4))
  · rw [hM.unique mgu4] at he
    exact absurd rfl he
  · rw [hM.unique mgu4] at h
    exact h
theorem res4' {w w' : World} {e : Ending} (h : MguPost F4 (.node (-2) []) w e w') : SBPost [] false 0 w e w' := by
  rcases h with ⟨hb, _⟩ | ⟨_, ⟨_, h⟩ | ⟨s, hM, _⟩⟩
  · rcases hb with hb | hb <;> exact absurd rfl hb
  · exact h
  · exact absurd hM.unif (none4 _)

theorem f4_mem {b1 : Nat} {X : World} (h1 : Cs b1 [.int .i64 (-2), .slice none 0 0] X) : IsArgs X.heap.size X F4.args (some ⟨b1, 0, none⟩) 1 := by
  obtain ⟨h1, c1⟩ := h1
  exact ⟨by simp [F4, T.args], by simp [maxLen], .inr ⟨b1, 0, rfl, h1, ⟨by decide, c1 0 _ rfl, _, _, c1 1 _ rfl, by simp, by simp [maxLen], .inl rfl⟩, trivial⟩⟩
theorem x4_mem {b1 bx : Nat} {X : World} (hx : Cs bx [.int .i64 (-1), .slice none 0 0, .int .i64 3, .slice (some ⟨b1, 0, none⟩) 1 1] X) (h1 : Cs b1 [.int .i64 (-2), .slice none 0 0] X) : IsArgs X.heap.size X X4.args (some ⟨bx, 0, none⟩) 2 := by
  have hf := f4_mem h1
  obtain ⟨hx, cx⟩ := hx
  exact ⟨by simp [X4, T.args], by simp [maxLen], .inr ⟨bx, 0, rfl, hx, ⟨by decide, cx 0 _ rfl, _, _, cx 1 _ rfl, by simp, by simp [maxLen], .inl rfl⟩, isT_iff.2 ⟨by decide, cx 2 _ rfl, _, _, cx 3 _ rfl, hf⟩, trivial⟩⟩
theorem y4_mem {b1 bx : Nat} {X : World} (hx : Cs bx [.int .i64 3, .slice (some ⟨b1, 0, none⟩) 1 1, .int .i64 (-1), .slice none 0 0] X) (h1 : Cs b1 [.int .i64 (-2), .slice none 0 0] X) : IsArgs X.heap.size X Y4.args (some ⟨bx, 0, none⟩) 2 := by
  have hf := f4_mem h1
  obtain ⟨hx, cx⟩ := hx
  exact ⟨by simp [Y4, T.args], by simp [maxLen], .inr ⟨bx, 0, rfl, hx, isT_iff.2 ⟨by decide, cx 0 _ rfl, _, _, cx 1 _ rfl, hf⟩, ⟨by decide, cx 2 _ rfl, _, _, cx 3 _ rfl, by simp, by simp [maxLen], .inl rfl⟩, trivial⟩⟩
theorem call4 (b c : Nat) (W : World) (hx : IsArgs W.heap.size W X4.args (some ⟨b, 0, none⟩) 2) (hy : IsArgs W.heap.size W Y4.args (some ⟨c, 0, none⟩) 2) : Calls Try.prog 22 #[tm 4 (some ⟨b, 0, none⟩) 2 2, tm 4 (some ⟨c, 0, none⟩) 2 2] W fun e w' => ∃ a c, e = .returned (.tuple #[.slice a 1 c, .bool true, .int .i64 0]) ∧ IsBs w'.heap.size w' S4 a c ∧ Below W.heap.size W w' :=
  (mgu_full X4 Y4 (by simp [X4, F4, T.size, T.sizes]) (by simp [Y4, F4, T.size, T.sizes]) W.heap.size _ 2 _ 2 W (Nat.le_refl _) (by decide) (by decide) hx hy).mono fun e w' ⟨w0, hb, h⟩ => by
    obtain ⟨a, c, h1, h2, h3⟩ := res4 h
    exact ⟨a, c, h1, h2, hb.trans (h3.mono hb.size)⟩
theorem call4' (b : Nat) (W : World) (hx : IsArgs W.heap.size W F4.args (some ⟨b, 0, none⟩) 1) : Calls Try.prog 22 #[tm 3 (some ⟨b, 0, none⟩) 1 1, tm (-2) none 0 0] W fun e w' => ∃ a c, e = .returned (.tuple #[.slice a 0 c, .bool false, .int .i64 0]) ∧ Below W.heap.size W w' :=
  (mgu_full F4 (.node (-2) []) (by simp [F4, T.size, T.sizes]) (by simp [T.size, T.sizes]) W.heap.size _ 1 none 0 W (Nat.le_refl _) (by decide) (by decide) hx ⟨by simp [T.args], by simp [maxLen], .inl rfl⟩).mono fun e w' ⟨w0, hb, h⟩ => by
    obtain ⟨a, c, h1, h2, h3⟩ := res4' h
    exact ⟨a, c, h1, hb.trans (h3.mono hb.size)⟩

theorem s4_mem {b1 b : Nat} {X : World} (hx : Cs b [.int .i64 0, .int .i64 3, .slice (some ⟨b1, 0, none⟩) 1 1] X) (h1 : Cs b1 [.int .i64 (-2), .slice none 0 0] X) : IsBs X.heap.size X S4 (some ⟨b, 0, none⟩) 1 := by
  have hf := f4_mem h1
  obtain ⟨hx, cx⟩ := hx
  refine ⟨by simp [S4], by simp [maxLen], .inr ⟨b, 0, rfl, hx, fun j x hj => ?_⟩⟩
  match j, hj with
  | 0, hj =>
    simp [S4] at hj
    subst hj
    exact ⟨by decide, cx 0 _ rfl, isT_iff.2 ⟨by decide, cx 1 _ rfl, _, _, cx 2 _ rfl, hf⟩⟩
  | j + 1, hj => simp [S4] at hj
def Cut4 (w4 : World) (v2 v3 v4 : Value) (wx : World) : Prop := ∃ a c, v2 = .slice a 1 c ∧ v3 = .bool true ∧ v4 = .int .i64 0 ∧ IsBs wx.heap.size wx S4 a c ∧ Below w4.heap.size w4 wx
def Cut4' (w4 : World) (v5 v6 v7 : Value) (wx : World) : Prop := v6 = .bool false ∧ v7 = .int .i64 0 ∧ Below w4.heap.size w4 wx

set_option maxRecDepth 100000 in
set_option maxHeartbeats 12000000 in
theorem awake4_any (w : World) : Calls Try.prog 24 #[] w fun e w' => e = .returned (.bool true) ∧ Below w.heap.size w w' := by
  go_enter Try.func24, Try.ntmps24
  go_wp2_with fail
  refine (refVar_any 1 _ (by omega) (by omega)).mono ?_
  rintro e w1 ⟨rfl, hb1⟩
  have D1 := Lib.hid (Later.below hb1)
  clear hb1
  go_wp2_with fail
  have D2 := Lib.hid (D1.out.pushC (Below.refl _ _) #[.int .i64 (-2), .slice none 0 0] 25)
  generalize w1.alloc (.cells #[.int .i64 (-2), .slice none 0 0] 25) = w2 at D2 ⊢
  generalize w1.heap.size = b1 at D2 ⊢
  refine (fun_any 3 _ _ _ w2).mono ?_
  rintro e w3 ⟨rfl, hb⟩
  have D3 := Lib.hid (D2.out.mv hb)
  clear hb D1 D2
  go_wp2
  have D4 := Lib.hid (D3.out.pushC (Below.refl _ _) #[.int .i64 3, .slice (some ⟨b1, 0, none⟩) 1 1] 25)
  generalize w3.alloc (.cells #[.int .i64 3, .slice (some ⟨b1, 0, none⟩) 1 1] 25) = w4 at D4 ⊢
  generalize w3.heap.size = bf at D4 ⊢
  clear D3
  have KP := Lib.hid (show ∀ W, Below w4.heap.size w4 W → W.cell? ⟨bf, 0, none⟩ = some (.int .i64 3) ∧ W.cell? ⟨bf, 1, none⟩ = some (.slice (some ⟨b1, 0, none⟩) 1 1) ∧ bf < W.heap.size ∧ (∀ ob, (W.alloc ob).cell? ⟨bf, 0, none⟩ = some (.int .i64 3) ∧ (W.alloc ob).cell? ⟨bf, 1, none⟩ = some (.slice (some ⟨b1, 0, none⟩) 1 1)) from fun W hW => by
    obtain ⟨⟨hl, hc⟩, _⟩ := D4.out W hW
    refine ⟨hc 0 _ rfl, hc 1 _ rfl, hl, fun ob => ?_⟩
    obtain ⟨⟨_, hc2⟩, _⟩ := D4.out (W.alloc ob) (hW.alloc hW.size _)
    exact ⟨hc2 0 _ rfl, hc2 1 _ rfl⟩)
  obtain ⟨f0, f1, hbfl, _⟩ := KP.out w4 (Below.refl _ _)
  go_cut [2, 3, 4] from 11 (fun v2 v3 v4 wx => Cut4 w4 v2 v3 v4 wx)
  case first =>
    go_region_law (first
        | (go_simp; go_at_call 22; refine (call4 u1.heap.size u3.heap.size u4 (x4_mem (L1 u4 hb34) (D4.out u4 hB4).2.1) (y4_mem (L3 u4 (Below.refl _ _)) (D4.out u4 hB4).2.1)).mono ?_; rintro e u5 ⟨a5, c5, rfl, hI5, h5⟩; have hB5 := hB4.trans (h5.mono hB4.size))
        | (go_simp; go_at_call 52; refine (fun_any 4 (some ⟨u3.heap.size, 0, none⟩) 2 2 _).mono ?_; rintro e u4 ⟨rfl, h4⟩; have L3 := (later_cs u3 #[.int .i64 3, .slice (some ⟨b1, 0, none⟩) 1 1, .int .i64 (-1), .slice none 0 0] 25).mv h4; have hb34 : Below u2.heap.size u2 u4 := h3.trans (((((Below.refl _ u3).alloc (Nat.le_refl _) _)).trans (h4.mono (by simp))).mono h3.size); have hB4 : Below w4.heap.size w4 u4 := hB2.trans (hb34.mono hB2.size))
        | (go_simp; go_at_call 26; refine (refVar_any 0 u2 (by omega) (by omega)).mono ?_; rintro e u3 ⟨rfl, h3⟩; have hB3 : Below w4.heap.size w4 u3 := hB2.trans (h3.mono hB2.size); obtain ⟨p3, q3, _, r3⟩ := KP.out u3 hB3)
        | (go_simp; go_at_call 52; refine (fun_any 4 (some ⟨u1.heap.size, 0, none⟩) 2 2 _).mono ?_; rintro e u2 ⟨rfl, h2⟩; have L1 := (later_cs u1 #[.int .i64 (-1), .slice none 0 0, .int .i64 3, .slice (some ⟨b1, 0, none⟩) 1 1] 25).mv h2; have hB2 : Below w4.heap.size w4 u2 := (hB1.alloc hB1.size _).trans (h2.mono (Nat.le_trans hB1.size (by simp))); obtain ⟨p2, q2, _, r2⟩ := KP.out u2 hB2)
        | (go_simp; go_at_call 26; refine (refVar_any 0 w4.drew (by omega) (by omega)).mono ?_; rintro e u1 ⟨rfl, h1⟩; have hB1 : Below w4.heap.size w4 u1 := ⟨h1.os, h1.tape, h1.output, h1.size, h1.block⟩; obtain ⟨p1, q1, _, r1⟩ := KP.out u1 hB1))
    all_goals
      go_wp2_with fail
      go_meet
      exact ⟨a5, c5, rfl, rfl, rfl, hI5, hB5⟩
  case rest =>
    obtain ⟨a5, c5, rfl, rfl, rfl, hI5, hB5⟩ := hcut
    have D5 := Lib.hid ((D4.out.mv hB5).and (later_bs hI5))
    clear hI5 hB5 KP f0 f1 hbfl D4
    generalize wc = w5 at D5 ⊢
    have KP := Lib.hid (show ∀ W, Below w5.heap.size w5 W → W.cell? ⟨bf, 0, none⟩ = some (.int .i64 3) ∧ W.cell? ⟨bf, 1, none⟩ = some (.slice (some ⟨b1, 0, none⟩) 1 1) ∧ Below w5.heap.size w5 W from fun W hW => by
      obtain ⟨_, ⟨hl, hc⟩, _⟩ := D5.out W hW
      exact ⟨hc 0 _ rfl, hc 1 _ rfl, hW⟩)
    obtain ⟨f0, f1, _⟩ := KP.out w5 (Below.refl _ _)
    go_wp2_with fail
    go_cut [5, 6, 7] from 24 (fun v5 v6 v7 wx => Cut4' w5 v5 v6 v7 wx)
    case first =>
      refine wp_region_noPanic ?_
      go_region_held3 (fun w' => w'.cell? ⟨bf, 0, none⟩ = some (.int .i64 3) ∧ w'.cell? ⟨bf, 1, none⟩ = some (.slice (some ⟨b1, 0, none⟩) 1 1) ∧ Below w5.heap.size w5 w')
        (first
          | exact KP.out _ (Below.refl _ _)
          | exact KP.out _ (Below.refl _ _).drew
          | exact KP.out _ hB)
        (first
          | (go_at_call 26; with_reducible refine (refVar_any 1 _ (by omega) (by omega)).mono ?_; rintro e u1 ⟨rfl, hu⟩; have hB := bl_call (‹_ ∧ _ ∧ Below w5.heap.size w5 _›.2.2) hu)
          | (go_at_call 22; refine (call4' b1 u1 (f4_mem (D5.out u1 hB).2.2.1)).mono ?_; rintro e u2 ⟨a6, c6, rfl, hu⟩; have hB := bl_call (‹_ ∧ _ ∧ Below w5.heap.size w5 _›.2.2) hu; have hfin := hB))
      all_goals
        refine NoPanic.normal ?_
        go_wp2_with fail
        go_meet
        exact ⟨rfl, rfl, hfin⟩
    case rest =>
      obtain ⟨rfl, rfl, hB6⟩ := hcut
      have D6 := Lib.hid (D5.out.mv hB6)
      clear f0 f1
      obtain ⟨f0, f1, _⟩ := KP.out _ hB6
      clear KP D5 hB6
      generalize wc = w6 at D6 f0 f1 ⊢
      go_wp2_with fail
      have D7 := Lib.hid (D6.out.pushC (Below.refl _ _) #[.int .i64 0, .int .i64 3, .slice (some ⟨b1, 0, none⟩) 1 1] 43)
      generalize w6.alloc (.cells #[.int .i64 0, .int .i64 3, .slice (some ⟨b1, 0, none⟩) 1 1] 43) = w7 at D7 ⊢
      generalize w6.heap.size = b6 at D7 ⊢
      clear D6 f0 f1
      refine (sameS_any S4 (fun x hx => by simp [S4] at hx; subst hx; simp [F4, T.size, T.sizes]) w7.heap.size a5 c5 (some ⟨b6, 0, none⟩) 1 w7 (Nat.le_refl _) D7.out.now.2.1 (s4_mem D7.out.now.1 D7.out.now.2.2.2.1)).mono ?_
      rintro e w8 ⟨rfl, hb8⟩
      have hfin := (D7.out.mv hb8).now.2.2.2.2
      clear hb8 D7
      go_wp2_with fail
      go_ret
      exact ⟨rfl, hfin⟩

end Go.Proofs.Ytcbjnfdhghhgeaa
