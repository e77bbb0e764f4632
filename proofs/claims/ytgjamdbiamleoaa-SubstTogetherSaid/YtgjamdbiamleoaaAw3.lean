/- The example of the statements of layer 3. -/
import Derived.Test.YtgjamdbiamleoaaAwC
namespace Go.Proofs.Ytgjamdbiamleoaa
set_option linter.unusedVariables false
set_option linter.unusedSimpArgs false
open Go.RowKit
def S3 : Sb := [(0, .node 3 [.node (-2) []]), (1, .node 1 [])]
def T3 : T := .node 4 [.node (-1) [], .node (-2) []]
def R3 : T := .node 4 [.node 3 [.node (-2) []], .node 1 []]
theorem app3 : appT S3 T3 = R3 ∧ appE S3 T3 = 0 := by
  constructor <;> rfl
theorem shf3 : shfT (.node (-3) []) 3 = .node (-6) [] ∧ shfE (.node (-3) []) 3 = 0 := by
  constructor <;> rfl
theorem err3 : errS S3 = 0 := by rfl

theorem r3_mem {b1 b3 : Nat} {X : World} (h : Cs b3 [.int .i64 3, .slice (some ⟨b1, 0, none⟩) 1 1, .int .i64 1, .slice none 0 0] X ∧ Cs b1 [.int .i64 (-2), .slice none 0 0] X) : IsArgs X.heap.size X R3.args (some ⟨b3, 0, none⟩) 2 := by
  obtain ⟨⟨h3, c3⟩, ⟨h1, c1⟩⟩ := h
  exact ⟨by simp [R3, T.args], by simp [maxLen], .inr ⟨b3, 0, rfl, h3, ⟨by decide, c3 0 _ rfl, _, _, c3 1 _ rfl, by simp, by simp [maxLen], .inr ⟨b1, 0, rfl, h1, ⟨by decide, c1 0 _ rfl, _, _, c1 1 _ rfl, by simp, by simp [maxLen], .inl rfl⟩, trivial⟩⟩, ⟨by decide, c3 2 _ rfl, _, _, c3 3 _ rfl, by simp, by simp [maxLen], .inl rfl⟩, trivial⟩⟩

set_option maxRecDepth 100000 in
set_option maxHeartbeats 12000000 in
theorem awake3_any (w : World) : Calls Try.prog 20 #[] w fun e w' => e = .returned (.bool true) ∧ Below w.heap.size w w' := by
  go_enter Try.func20, Try.ntmps20
  go_wp2_with fail
  refine (refVar_any 1 _ (by omega) (by omega)).mono ?_
  rintro e w1 ⟨rfl, hb1⟩
  have D1 := Lib.hid (Later.below hb1)
  clear hb1
  go_wp2_with fail
  have D2 := Lib.hid (D1.out.pushC (Below.refl _ _) #[.int .i64 (-2), .slice none 0 0] 25)
  generalize w1.alloc (.cells #[.int .i64 (-2), .slice none 0 0] 25) = w2 at D2 ⊢
  generalize w1.heap.size = b1 at D2 ⊢
  refine (fun_any 3 _ _ _ w2).mono ?_
  rintro e w3 ⟨rfl, hb⟩
  have D3 := Lib.hid (D2.out.mv hb)
  clear hb D1 D2
  go_wp2_with fail
  refine (fun_any 1 _ _ _ w3).mono ?_
  rintro e w4 ⟨rfl, hb⟩
  have D4 := Lib.hid (D3.out.mv hb)
  clear hb D3
  go_wp2_with fail
  have D5 := Lib.hid (D4.out.pushC (Below.refl _ _) #[.int .i64 0, .int .i64 3, .slice (some ⟨b1, 0, none⟩) 1 1, .int .i64 1, .int .i64 1, .slice none 0 0] 44)
  generalize w4.alloc (.cells #[.int .i64 0, .int .i64 3, .slice (some ⟨b1, 0, none⟩) 1 1, .int .i64 1, .int .i64 1, .slice none 0 0] 44) = w5 at D5 ⊢
  generalize w4.heap.size = b4 at D5 ⊢
  clear D4
  refine (refVar_any 0 w5 (by omega) (by omega)).mono ?_
  rintro e w6 ⟨rfl, hb⟩
  have D6 := Lib.hid (D5.out.mv hb)
  clear hb D5
  go_wp2_with fail
  refine (refVar_any 1 w6 (by omega) (by omega)).mono ?_
  rintro e w7 ⟨rfl, hb⟩
  have D7 := Lib.hid (D6.out.mv hb)
  clear hb D6
  go_wp2_with fail
  have D8 := Lib.hid (D7.out.pushC (Below.refl _ _) #[.int .i64 (-1), .slice none 0 0, .int .i64 (-2), .slice none 0 0] 25)
  generalize w7.alloc (.cells #[.int .i64 (-1), .slice none 0 0, .int .i64 (-2), .slice none 0 0] 25) = w8 at D8 ⊢
  generalize w7.heap.size = b7 at D8 ⊢
  clear D7
  refine (fun_any 4 _ _ _ w8).mono ?_
  rintro e w9 ⟨rfl, hb⟩
  have D9 := Lib.hid (D8.out.mv hb)
  clear hb D8
  go_wp2_with fail
  have MS := Lib.hid (show ∀ X, (Cs b7 [.int .i64 (-1), .slice none 0 0, .int .i64 (-2), .slice none 0 0] X ∧ Cs b4 [.int .i64 0, .int .i64 3, .slice (some ⟨b1, 0, none⟩) 1 1, .int .i64 1, .int .i64 1, .slice none 0 0] X ∧ Cs b1 [.int .i64 (-2), .slice none 0 0] X ∧ Below w.heap.size w X) →
      IsBs X.heap.size X S3 (some ⟨b4, 0, none⟩) 2 ∧ IsArgs X.heap.size X T3.args (some ⟨b7, 0, none⟩) 2 ∧ Below w.heap.size w X from fun X ⟨⟨h7, c7⟩, ⟨h4, c4⟩, ⟨h1, c1⟩, hB⟩ => by
    refine ⟨⟨by simp [S3], by simp [maxLen], .inr ⟨b4, 0, rfl, h4, fun j x hx => ?_⟩⟩, ⟨by simp [T3, T.args], by simp [maxLen], .inr ⟨b7, 0, rfl, h7, ?_⟩⟩, hB⟩
    · match j, hx with
      | 0, hx =>
        simp [S3] at hx; subst hx
        exact ⟨by decide, c4 0 _ rfl, by decide, c4 1 _ rfl, _, _, c4 2 _ rfl, by simp, by simp [maxLen], .inr ⟨b1, 0, rfl, h1, ⟨by decide, c1 0 _ rfl, _, _, c1 1 _ rfl, by simp, by simp [maxLen], .inl rfl⟩, trivial⟩⟩
      | 1, hx =>
        simp [S3] at hx; subst hx
        exact ⟨by decide, c4 3 _ rfl, by decide, c4 4 _ rfl, _, _, c4 5 _ rfl, by simp, by simp [maxLen], .inl rfl⟩
      | j + 2, hx => simp [S3] at hx
    · exact ⟨⟨by decide, c7 0 _ rfl, _, _, c7 1 _ rfl, by simp, by simp [maxLen], .inl rfl⟩, ⟨by decide, c7 2 _ rfl, _, _, c7 3 _ rfl, by simp, by simp [maxLen], .inl rfl⟩, trivial⟩)
  have ms := MS.out w9 D9.out.now
  refine (apply_any S3 (fun x hx => by simp [S3] at hx; rcases hx with rfl | rfl <;> simp [T.size, T.sizes]) T3 (by simp [T3, T.size, T.sizes]) w9.heap.size (some ⟨b4, 0, none⟩) 2 (some ⟨b7, 0, none⟩) 2 w9 (Nat.le_refl _) ms.1 (by decide) ms.2.1).mono ?_
  clear ms
  rw [app3.1, app3.2]
  rintro e w10 ⟨a10, c10, rfl, _, hA10, hb⟩
  have D11 := Lib.hid (D9.out.pushT hb R3 a10 c10 hA10)
  rw [show R3.head = 4 from rfl, show R3.args.length = 2 from rfl] at D11 ⊢
  clear hA10 hb D9
  go_wp2_with fail
  generalize w10.alloc (tmCells 4 a10 2 c10) = w11 at D11 ⊢
  generalize w10.heap.size = b10 at D11 ⊢
  refine (refVar_any 2 w11 (by omega) (by omega)).mono ?_
  rintro e w12 ⟨rfl, hb⟩
  have D12 := Lib.hid (D11.out.mv hb)
  clear hb D11
  go_wp2_with fail
  refine (shift_any (.node (-3) []) (by simp [T.size, T.sizes]) 3 w12.heap.size none 0 w12 (Nat.le_refl _) (by decide) ⟨by simp [T.args], by simp [maxLen], .inl rfl⟩).mono ?_
  rw [shf3.1, shf3.2]
  rintro e w13 ⟨a13, c13, rfl, _, hA13, hb⟩
  have D14 := Lib.hid (D12.out.pushT hb (.node (-6) []) a13 c13 hA13)
  clear hA13 hb D12
  go_wp2
  simp only [T.head, T.args, List.length_nil] at D14 ⊢
  generalize w13.alloc (.cells #[.int .i64 (-6), .slice a13 0 c13] 25) = w14 at D14 ⊢
  generalize w13.heap.size = b13 at D14 ⊢
  have LF := Lib.hid (show ∀ X, Below w14.heap.size w14 X → (X.cell? ⟨b10, 0, none⟩ = some (.int .i64 4) ∧ X.cell? ⟨b10, 1, none⟩ = some (.slice a10 2 c10)) ∧ (X.cell? ⟨b13, 0, none⟩ = some (.int .i64 (-6)) ∧ X.cell? ⟨b13, 1, none⟩ = some (.slice a13 0 c13)) ∧ b10 < X.heap.size ∧ b13 < X.heap.size ∧ IsArgs X.heap.size X R3.args a10 c10 ∧ IsBs X.heap.size X S3 (some ⟨b4, 0, none⟩) 2 ∧ Below w.heap.size w X from fun X hX => by
    obtain ⟨h13, _, h10, hA, h7, h4, h1, hB⟩ := D14.out X hX
    obtain ⟨m1, m2, m3⟩ := MS.out X ⟨h7, h4, h1, hB⟩
    exact ⟨h10, h13, vc_lt h10, vc_lt h13, hA, m1, m3⟩)
  clear D14 MS
  have KP := Lib.hid (show ∀ W, Below w14.heap.size w14 W → W.cell? ⟨b10, 0, none⟩ = some (.int .i64 4) ∧ W.cell? ⟨b10, 1, none⟩ = some (.slice a10 2 c10) ∧ W.cell? ⟨b13, 0, none⟩ = some (.int .i64 (-6)) ∧ Below w14.heap.size w14 W from fun W hW => by
    obtain ⟨⟨p0, p1⟩, ⟨p2, p3⟩, _⟩ := LF.out W hW
    exact ⟨p0, p1, p2, hW⟩)
  refine wp_region_noPanic ?_
  go_region_held3 (fun w' => w'.cell? ⟨b10, 0, none⟩ = some (.int .i64 4) ∧ w'.cell? ⟨b10, 1, none⟩ = some (.slice a10 2 c10) ∧ w'.cell? ⟨b13, 0, none⟩ = some (.int .i64 (-6)) ∧ Below w14.heap.size w14 w')
    (first
      | exact KP.out _ (Below.refl _ _)
      | exact KP.out _ (Below.refl _ _).drew
      | exact KP.out _ hB
      | exact KP.out _ (hB.alloc hB.size _))
    (first
      | (go_at_call 30; with_reducible refine (refVar_any 1 _ (by omega) (by omega)).mono ?_; rintro e u1 ⟨rfl, hu⟩; have hB := bl_call (‹_ ∧ _ ∧ _ ∧ Below w14.heap.size w14 _›.2.2.2) hu)
      | (go_at_call 54; with_reducible refine (fun_any 3 _ _ _ _).mono ?_; rintro e u2 ⟨rfl, hu⟩; have L1 := (later_cs u1 #[.int .i64 (-2), .slice none 0 0] 25).mv hu; have hB := bl_call (‹_ ∧ _ ∧ _ ∧ Below w14.heap.size w14 _›.2.2.2) hu)
      | (go_at_call 54; with_reducible refine (fun_any 1 _ _ _ _).mono ?_; rintro e u3 ⟨rfl, hu⟩; have L1 := L1.mv hu; have hB := bl_call (‹_ ∧ _ ∧ _ ∧ Below w14.heap.size w14 _›.2.2.2) hu)
      | (go_at_call 54; with_reducible refine (fun_any 4 _ _ _ _).mono ?_; rintro e u4 ⟨rfl, hu⟩; have L2 := ((L1.pushC (Below.refl _ _) #[.int .i64 3, .slice (some ⟨u1.heap.size, 0, none⟩) 1 1, .int .i64 1, .slice none 0 0] 25).mv hu).now; have hB := bl_call (‹_ ∧ _ ∧ _ ∧ Below w14.heap.size w14 _›.2.2.2) hu; have hA4 := (LF.out u4 hB).2.2.2.2.1)
      | (go_at_call 22; refine (sCheck_any S3 (fun x hx => by simp [S3] at hx; rcases hx with rfl | rfl <;> simp [T.size, T.sizes]) u5.heap.size _ _ u5 (Nat.le_refl _) hS5).mono ?_; rw [err3]; rintro e u6 ⟨rfl, hu⟩; have hB := bl_call (‹_ ∧ _ ∧ _ ∧ Below w14.heap.size w14 _›.2.2.2) hu; have hfin := (LF.out u6 hB).2.2.2.2.2.2)
      | (go_at_call 21; refine (sameAt_any R3 R3 rfl (by simp [R3, T.size, T.sizes]) u4.heap.size a10 c10 (some ⟨u3.heap.size, 0, none⟩) 2 u4 (Nat.le_refl _) hA4 (r3_mem L2)).mono ?_; rintro e u5 ⟨rfl, hu⟩; have hB := bl_call (‹_ ∧ _ ∧ _ ∧ Below w14.heap.size w14 _›.2.2.2) hu; have hS5 := (LF.out u5 hB).2.2.2.2.2.1))
  all_goals
    refine NoPanic.normal ?_
    go_wp2
    go_ret
    exact ⟨rfl, hfin⟩

end Go.Proofs.Ytgjamdbiamleoaa
