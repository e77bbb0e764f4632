/- The example of layer 6: awake answers true. -/
import Derived.Test.YtkejacodofmlhaaBkF
namespace Go.Proofs.Ytkejacodofmlhaa
set_option linter.unusedVariables false
set_option linter.unusedSimpArgs false
open Go.RowKit Go.Maps

def TA6 : T := .node 1 []
def TF6 : T := .node 3 [TA6]
def TG6 : T := .node 4 [TA6, TF6]
theorem put6_1 : putV [] TG6 = .tuple #[.int .i64 2, .int .i64 0] ∧ putL [] TG6 = [TA6, TF6, TG6] := by
  have h : TG6.check = 0 := by decide
  have hp : pt [] TG6 = ([TA6, TF6, TG6], some 2) := by decide
  unfold putV putL
  rw [if_pos h, if_pos h, hp]
  exact ⟨rfl, rfl⟩
theorem put6_2 : putV [TA6, TF6, TG6] TA6 = .tuple #[.int .i64 0, .int .i64 0] ∧ putL [TA6, TF6, TG6] TA6 = [TA6, TF6, TG6] := by
  have h : TA6.check = 0 := by decide
  have hp : pt [TA6, TF6, TG6] TA6 = ([TA6, TF6, TG6], some 0) := by decide
  unfold putV putL
  rw [if_pos h, if_pos h, hp]
  exact ⟨rfl, rfl⟩
theorem put6_3 : putV [TA6, TF6, TG6] TF6 = .tuple #[.int .i64 1, .int .i64 0] ∧ putL [TA6, TF6, TG6] TF6 = [TA6, TF6, TG6] := by
  have h : TF6.check = 0 := by decide
  have hp : pt [TA6, TF6, TG6] TF6 = ([TA6, TF6, TG6], some 1) := by decide
  unfold putV putL
  rw [if_pos h, if_pos h, hp]
  exact ⟨rfl, rfl⟩

theorem mem6 {W : World} {bl bm : Nat} (h0 : W.cell? ⟨bl, 0, none⟩ = some (.int .i64 1)) (h1 : W.cell? ⟨bl, 1, none⟩ = some (.slice none 0 0)) (m0 : W.cell? ⟨bm, 0, none⟩ = some (.int .i64 1)) (m1 : W.cell? ⟨bm, 1, none⟩ = some (.slice none 0 0))
    (m2 : W.cell? ⟨bm, 2, none⟩ = some (.int .i64 3)) (m3 : W.cell? ⟨bm, 3, none⟩ = some (.slice (some ⟨bl, 0, none⟩) 1 1)) :
    IsArgsp (fun b => b = bl ∨ b = bm) W TG6.args (some ⟨bm, 0, none⟩) 2 ∧ IsArgsp (fun b => b = bl ∨ b = bm) W TF6.args (some ⟨bl, 0, none⟩) 1 ∧ IsArgsp (fun b => b = bl ∨ b = bm) W TA6.args none 0 := by
  have a0 : IsArgsp (fun b => b = bl ∨ b = bm) W TA6.args none 0 := ⟨by simp [TA6, T.args], by simp [maxLen], .inl rfl⟩
  have a1 : IsArgsp (fun b => b = bl ∨ b = bm) W TF6.args (some ⟨bl, 0, none⟩) 1 := by
    refine ⟨by simp [TF6, T.args], by simp [maxLen], .inr ⟨bl, 0, rfl, .inl rfl, ?_⟩⟩
    simp only [TF6, T.args, IsRowp, and_true]
    exact isTp_iff.2 ⟨by decide, h0, none, 0, h1, a0⟩
  refine ⟨⟨by simp [TG6, T.args], by simp [maxLen], .inr ⟨bm, 0, rfl, .inr rfl, ?_⟩⟩, a1, a0⟩
  simp only [TG6, T.args, IsRowp, and_true]
  exact ⟨isTp_iff.2 ⟨by decide, m0, none, 0, m1, a0⟩, isTp_iff.2 ⟨by decide, m2, some ⟨bl, 0, none⟩, 1, m3, a1⟩⟩

theorem put6_any {B : Nat} {F ok : Nat → Prop} {bb : Nat} {L L' : List T} {t : T} {v : Value} (hv : putV L t = v ∧ putL L t = L') (ht : t.size ≤ 1000000000000) {a : Option Addr} {c : Nat} {w : World} (hB : B ≤ w.heap.size) (hG : BankAt B F w bb L) (hok : ∀ b, ok b → b < w.heap.size ∧ ¬ F b) (hwf : (Lit.int .i64 t.head).wf = true) (hA : IsArgsp ok w t.args a c) :
    Calls Try.prog 15 #[.pointer (some ⟨bb, 0, none⟩), tm t.head a t.args.length c] w fun e w' => e = .returned v ∧ BankAt B (Fw F w w') w' bb L' ∧ FrS F w w' := by
  have := put_any B F ok bb L t ht a c w hB hG hok hwf hA
  unfold PutPost at this
  rw [hv.1, hv.2] at this
  exact this
/-- What later puts leave. -/
theorem fw_low {F : Nat → Prop} {w w' : World} {lo : Nat} (hlo : ∀ i, F i → i < w.heap.size → ¬ lo ≤ i) {b : Nat} (h1 : lo ≤ b) (h2 : b < w.heap.size) : ¬ Fw F w w' b := fun e => by
  rcases e with e | e
  · exact hlo b e h2 h1
  · omega

set_option maxRecDepth 100000 in
set_option maxHeartbeats 4000000 in
theorem awake6_any (w : World) : Calls Try.prog 26 #[] w fun e w' => e = .returned (.bool true) ∧ Below w.heap.size w w' := by
  go_enter Try.func26, Try.ntmps26
  go_wp2_with fail
  refine (new_any _).mono ?_
  rintro e w1 ⟨bb, rfl, hG1, hb1⟩
  have HG1 := Lib.hid hG1
  have HB1 := Lib.hid hb1
  clear hG1 hb1
  go_wp2_with fail
  refine (fun_any 1 _ _ _ _).mono ?_
  rintro e w2 ⟨rfl, hb2⟩
  have HB2 := Lib.hid hb2
  clear hb2
  go_wp2_with fail
  refine (fun_any 3 _ _ _ _).mono ?_
  rintro e w3 ⟨rfl, hb3⟩
  have HB3 := Lib.hid hb3
  have a0 : w3.cell? ⟨w2.heap.size, 0, none⟩ = some (Value.int .i64 1) := Mm.cell_via hb3 (by simp <;> omega) (by simp)
  have a1 : w3.cell? ⟨w2.heap.size, 1, none⟩ = some (Value.slice none 0 0) := Mm.cell_via hb3 (by simp <;> omega) (by simp)
  have l0 : w3.cell? ⟨w2.heap.size + 1, 0, none⟩ = some (Value.int .i64 1) := Mm.cell_via hb3 (by simp <;> omega) (by simp)
  have l1 : w3.cell? ⟨w2.heap.size + 1, 1, none⟩ = some (Value.slice none 0 0) := Mm.cell_via hb3 (by simp <;> omega) (by simp)
  have hz3 : w2.heap.size + 2 ≤ w3.heap.size := by have := hb3.size; simpa using this
  have hz3a : w2.heap.size < w3.heap.size := by omega
  have hz3b : w2.heap.size + 1 < w3.heap.size := by omega
  clear hb3
  go_wp2_with fail
  refine (fun_any 4 _ _ _ _).mono ?_
  rintro e w4 ⟨rfl, hb4⟩
  have hb34 : Below w3.heap.size w3 w4 := (((Below.refl _ w3).alloc (Nat.le_refl _) _).alloc (by simp) _).trans (hb4.mono (by simp <;> omega))
  have e0 : w4.cell? ⟨w2.heap.size, 0, none⟩ = some (Value.int .i64 1) := Mm.cell_via hb34 (by simpa using hz3a) a0
  have e1 : w4.cell? ⟨w2.heap.size, 1, none⟩ = some (Value.slice none 0 0) := Mm.cell_via hb34 (by simpa using hz3a) a1
  have f0 : w4.cell? ⟨w3.heap.size, 0, none⟩ = some (Value.int .i64 3) := Mm.cell_via hb4 (by simp <;> omega) (by simp)
  have f1 : w4.cell? ⟨w3.heap.size, 1, none⟩ = some (Value.slice (some ⟨w2.heap.size + 1, 0, none⟩) 1 1) := Mm.cell_via hb4 (by simp <;> omega) (by simp)
  have n0 : w4.cell? ⟨w2.heap.size + 1, 0, none⟩ = some (Value.int .i64 1) := Mm.cell_via hb34 (by simpa using hz3b) l0
  have n1 : w4.cell? ⟨w2.heap.size + 1, 1, none⟩ = some (Value.slice none 0 0) := Mm.cell_via hb34 (by simpa using hz3b) l1
  have m0 : w4.cell? ⟨w3.heap.size + 1, 0, none⟩ = some (Value.int .i64 1) := Mm.cell_via hb4 (by simp <;> omega) (by simp)
  have m1 : w4.cell? ⟨w3.heap.size + 1, 1, none⟩ = some (Value.slice none 0 0) := Mm.cell_via hb4 (by simp <;> omega) (by simp)
  have m2 : w4.cell? ⟨w3.heap.size + 1, 2, none⟩ = some (Value.int .i64 3) := Mm.cell_via hb4 (by simp <;> omega) (by simp)
  have m3 : w4.cell? ⟨w3.heap.size + 1, 3, none⟩ = some (Value.slice (some ⟨w2.heap.size + 1, 0, none⟩) 1 1) := Mm.cell_via hb4 (by simp <;> omega) (by simp)
  obtain ⟨g1, g2, g3⟩ := mem6 n0 n1 m0 m1 m2 m3
  have hz4 : w3.heap.size + 2 ≤ w4.heap.size := by have := hb4.size; simpa using this
  have hw4 : Below w1.heap.size w1 w4 := by
    have e2 := HB2.out.size
    exact (((HB2.out.alloc (by omega) _).alloc (by simp; omega) _).trans (HB3.out.mono (by simp; omega))).trans (((((Below.refl _ w3).alloc (by omega) _).alloc (by simp; omega) _).trans (hb4.mono (by simp; omega))))
  have hG4 := HG1.out.later hw4
  have hb14 := HB2.out.size
  have L4 := Lib.hid (show ∀ W, Below w4.heap.size w4 W → (W.cell? ⟨w2.heap.size, 0, none⟩ = some (.int .i64 1) ∧ W.cell? ⟨w2.heap.size, 1, none⟩ = some (.slice none 0 0)) ∧ W.cell? ⟨w3.heap.size, 0, none⟩ = some (.int .i64 3) ∧ W.cell? ⟨w3.heap.size, 1, none⟩ = some (.slice (some ⟨w2.heap.size + 1, 0, none⟩) 1 1) from fun W hW =>
    ⟨⟨Mm.cell_via hW (by simp; omega) e0, Mm.cell_via hW (by simp; omega) e1⟩, Mm.cell_via hW (by simp; omega) f0, Mm.cell_via hW (by simp; omega) f1⟩)
  have hok : ∀ b, (b = w2.heap.size + 1 ∨ b = w3.heap.size + 1) → w1.heap.size ≤ b ∧ b < w4.heap.size := fun b hb => by have := HB2.out.size; omega
  have HZ : w.heap.size ≤ w4.heap.size := by have := HB1.out.size; omega
  have HP := Lib.hid (show Calls Try.prog 15 #[.pointer (some ⟨bb, 0, none⟩), tm 4 (some ⟨w3.heap.size + 1, 0, none⟩) 2 2] w4 (fun e w' => e = .returned (.tuple #[.int .i64 2, .int .i64 0]) ∧ BankAt w.heap.size (Fw (fun i => w.heap.size ≤ i ∧ i < w1.heap.size) w4 w') w' bb [TA6, TF6, TG6] ∧ FrS (fun i => w.heap.size ≤ i ∧ i < w1.heap.size) w4 w')
    from put6_any put6_1 (by decide) HZ hG4 (fun b hb => ⟨(hok b hb).2, fun e => by have := (hok b hb).1; omega⟩) (by decide) g1)
  clear a0 a1 l0 l1 n0 n1 m0 m1 m2 m3 hb34 hb4
  have HG := Lib.hid (And.intro g1 (And.intro g2 g3))
  have HOK := Lib.hid hok
  have HW4 := Lib.hid hw4
  have hbal : w2.heap.size < w4.heap.size := by omega
  have hbfl : w3.heap.size < w4.heap.size := by omega
  have hba1 : w1.heap.size ≤ w2.heap.size := hb14
  have hbf1 : w1.heap.size ≤ w3.heap.size := by omega
  clear g1 g2 g3 hok hw4 hG4 e0 e1 f0 f1 hz3 hz3a hz3b hz4 hb14 HB2 HB3
  generalize w3.heap.size + 1 = bm at *
  generalize w2.heap.size + 1 = bl at *
  generalize w3.heap.size = bf at *
  generalize w2.heap.size = ba at *
  go_wp2_with fail
  refine HP.out.mono ?_
  rintro e w5 ⟨rfl, hG5, hF5⟩
  have hz5 := hF5.size
  have K5 : ∀ b, w1.heap.size ≤ b → b < w4.heap.size → w5.heap[b]? = w4.heap[b]? := fun b h1 h2 => hF5.block b h2 (fun e => by omega)
  obtain ⟨⟨p0, p1⟩, p2, p3⟩ := L4.out w4 (Below.refl _ _)
  have e0 : w5.cell? ⟨ba, 0, none⟩ = some (.int .i64 1) := (Mm.cell_of_block (a := ⟨ba, 0, none⟩) (K5 ba hba1 hbal)).trans p0
  have e1 : w5.cell? ⟨ba, 1, none⟩ = some (.slice none 0 0) := (Mm.cell_of_block (a := ⟨ba, 1, none⟩) (K5 ba hba1 hbal)).trans p1
  clear p0 p1 p2 p3
  have hok5 : ∀ b, (b = bl ∨ b = bm) → b < w5.heap.size ∧ ¬ Fw (fun i => w.heap.size ≤ i ∧ i < w1.heap.size) w4 w5 b := fun b hb => by
    have := HOK.out b hb
    exact ⟨by omega, fun e => by rcases e with e | e <;> omega⟩
  have HP2 := Lib.hid (show Calls Try.prog 15 #[.pointer (some ⟨bb, 0, none⟩), tm 1 none 0 0] w5 (fun e w' => e = .returned (.tuple #[.int .i64 0, .int .i64 0]) ∧ BankAt w.heap.size (Fw (Fw (fun i => w.heap.size ≤ i ∧ i < w1.heap.size) w4 w5) w5 w') w' bb [TA6, TF6, TG6] ∧ FrS (Fw (fun i => w.heap.size ≤ i ∧ i < w1.heap.size) w4 w5) w5 w')
    from put6_any put6_2 (by decide) (Nat.le_trans HZ hz5) hG5 hok5 (by decide) (HG.out.2.2.keep (fun b hb => K5 b (HOK.out b hb).1 (HOK.out b hb).2) (fun _ h => h)))
  have HK5 := Lib.hid K5
  have HF5 := Lib.hid hF5
  clear hG5 hF5 K5 hok5
  go_wp2_with fail
  refine HP2.out.mono ?_
  rintro e w6 ⟨rfl, hG6, hF6⟩
  have hz6 := hF6.size
  have K6 : ∀ b, w1.heap.size ≤ b → b < w4.heap.size → w6.heap[b]? = w4.heap[b]? := fun b h1 h2 => (hF6.block b (by omega) (fun e => by rcases e with e | e <;> omega)).trans (HK5.out b h1 h2)
  obtain ⟨⟨p0, p1⟩, p2, p3⟩ := L4.out w4 (Below.refl _ _)
  have e2 : w6.cell? ⟨bf, 0, none⟩ = some (.int .i64 3) := (Mm.cell_of_block (a := ⟨bf, 0, none⟩) (K6 bf hbf1 hbfl)).trans p2
  have e3 : w6.cell? ⟨bf, 1, none⟩ = some (.slice (some ⟨bl, 0, none⟩) 1 1) := (Mm.cell_of_block (a := ⟨bf, 1, none⟩) (K6 bf hbf1 hbfl)).trans p3
  clear p0 p1 p2 p3
  have hok6 : ∀ b, (b = bl ∨ b = bm) → b < w6.heap.size ∧ ¬ Fw (Fw (fun i => w.heap.size ≤ i ∧ i < w1.heap.size) w4 w5) w5 w6 b := fun b hb => by
    have := HOK.out b hb
    exact ⟨by omega, fun e => by rcases e with (e | e) | e <;> omega⟩
  have HP3 := Lib.hid (show Calls Try.prog 15 #[.pointer (some ⟨bb, 0, none⟩), tm 3 (some ⟨bl, 0, none⟩) 1 1] w6 (fun e w' => e = .returned (.tuple #[.int .i64 1, .int .i64 0]) ∧ BankAt w.heap.size (Fw (Fw (Fw (fun i => w.heap.size ≤ i ∧ i < w1.heap.size) w4 w5) w5 w6) w6 w') w' bb [TA6, TF6, TG6] ∧ FrS (Fw (Fw (fun i => w.heap.size ≤ i ∧ i < w1.heap.size) w4 w5) w5 w6) w6 w')
    from put6_any put6_3 (by decide) (by omega) hG6 hok6 (by decide) (HG.out.2.1.keep (fun b hb => K6 b (HOK.out b hb).1 (HOK.out b hb).2) (fun _ h => h)))
  have HF6 := Lib.hid hF6
  clear hG6 hF6 K6 hok6 e0 e1
  go_wp2_with fail
  refine HP3.out.mono ?_
  rintro e w7 ⟨rfl, hG7, hF7⟩
  have HG7 := Lib.hid (bsize_any w7 hG7)
  have HF7 := Lib.hid hF7
  clear hG7 hF7 e2 e3
  go_wp2_with fail
  refine HG7.out.mono ?_
  rintro e w8 ⟨rfl, rfl⟩
  go_wp2
  go_ret
  have b4 : Below w.heap.size w w4 := HB1.out.trans (HW4.out.mono HB1.out.size)
  have b5 := b4.trans (HF5.out.below HZ (fun i hi => hi.1))
  have b6 := b5.trans (HF6.out.below (by omega) (fun i hi => by rcases hi with hi | hi <;> omega))
  exact ⟨rfl, b6.trans (HF7.out.below (by omega) (fun i hi => by rcases hi with (hi | hi) | hi <;> omega))⟩

end Go.Proofs.Ytkejacodofmlhaa
