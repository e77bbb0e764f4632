/- Contract of the document's answer: Term (layer 7). -/
import Derived.Test.YtleohdddaadbeaaGreatQBn
import Derived.Test.YtleohdddaadbeaaGreatQBf
namespace Go.Proofs.YtleohdddaadbeaaGreat
set_option linter.unusedVariables false
set_option linter.unusedSimpArgs false
open Go.RowKit

set_option maxRecDepth 100000 in
set_option maxHeartbeats 2000000 in
theorem r7Term_any (g : Sg) (t : T) (hsz : t.size ≤ 1000000000000) (n₀ : Nat) (ga : Option Addr) (gc : Nat) (a : Option Addr) (c : Nat) (w : World) (hn : n₀ ≤ w.heap.size) (hG : IsSg n₀ w g ga gc) (hA : IsArgs n₀ w t.args a c) :
    Calls Tryz.prog 36 #[.slice ga g.length gc, tm t.head a t.args.length c] w fun e w' => e = .returned (.int .i64 (errT g t)) ∧ Below w.heap.size w w' := by
  obtain ⟨W1, hW1⟩ : ∃ W1, w.alloc (tmCells t.head a t.args.length c) = W1 := ⟨_, rfl⟩
  have L1 := Lib.hid (show ∀ W, Below W1.heap.size W1 W → W.cell? ⟨w.heap.size, 0, none⟩ = some (.int .i64 t.head) ∧ W.cell? ⟨w.heap.size, 1, none⟩ = some (.slice a t.args.length c) ∧ IsSg n₀ W g ga gc ∧ IsArgs n₀ W t.args a c ∧ Below w.heap.size w W ∧ n₀ ≤ W.heap.size from fun W hW => by
    have h0 : Below w.heap.size w W1 := by rw [← hW1]; exact (Below.refl _ w).alloc (Nat.le_refl _) _
    have h := h0.trans (hW.mono h0.size)
    exact ⟨(hW.cell (p := ⟨w.heap.size, 0, none⟩) (by rw [← hW1]; simp)).trans (by rw [← hW1]; simp [go_sem]), (hW.cell (p := ⟨w.heap.size, 1, none⟩) (by rw [← hW1]; simp)).trans (by rw [← hW1]; simp [go_sem]), hG.below (h.mono hn), hA.below (h.mono hn), h, Nat.le_trans hn h.size⟩)
  clear hG hA
  go_enter Tryz.func36, Tryz.ntmps36
  go_wp2_with fail
  try rw [hW1]
  obtain ⟨_, _, hG1, _, _, hn1⟩ := L1.out W1 (Below.refl _ _)
  refine (r7Right_any g n₀ ga gc W1 hn1 hG1).mono ?_
  rintro e w2 ⟨rfl, hb2⟩
  have B2 := Lib.hid hb2
  clear hb2 hG1 hW1
  obtain ⟨c0, c1, hG2, hA2, hb, hn2⟩ := L1.out w2 B2.out
  cases hr : rightG g with
  | false =>
    have HD := Lib.hid (show errT g t = 1 from by unfold errT; rw [hr]; rfl)
    have HB := Lib.hid hb
    clear hr hG2 hA2 hb
    go_wp2
    go_ret
    exact ⟨by rw [HD.out]; rfl, HB.out⟩
  | true =>
  have HR := Lib.hid hr
  have CK := Lib.hid (refCheck_any t hsz n₀ a c w2 hn2 hA2)
  clear hr hG2 hA2 hb
  go_wp2_with fail
  refine CK.out.mono ?_
  rintro e w3 ⟨rfl, hb3⟩
  have B3 := Lib.hid (B2.out.trans (hb3.mono B2.out.size))
  clear hb3 c0 c1 B2 CK
  obtain ⟨c0, c1, hG3, hA3, hb, hn3⟩ := L1.out w3 B3.out
  by_cases hc : t.check = 0
  case neg =>
    have HD := Lib.hid (show errT g t = t.check from by unfold errT; rw [HR.out, if_pos rfl, if_neg hc])
    obtain ⟨k, hk⟩ : ∃ k, t.check = k := ⟨_, rfl⟩
    rw [hk] at HD hc ⊢
    have hk0 : (k != 0) = true := by simpa using hc
    have HB := Lib.hid hb
    clear hG3 hA3 hb hc hk
    go_wp2
    go_ret
    exact ⟨by rw [HD.out]; rfl, HB.out⟩
  have HC := Lib.hid hc
  rw [hc]
  have CN := Lib.hid (r7known_any g t.size t (Nat.le_refl _) n₀ ga gc a c w3 hn3 hG3 hA3)
  clear hc hG3 hA3 hb
  go_wp2_with fail
  refine CN.out.mono ?_
  rintro e w4 ⟨rfl, hb4⟩
  have B4 := Lib.hid (B3.out.trans (hb4.mono B3.out.size))
  clear hb4 c0 c1 B3 CN
  obtain ⟨c0, c1, hG4, hA4, hb, hn4⟩ := L1.out w4 B4.out
  cases hf : fitsT g t with
  | false =>
    have HD := Lib.hid (show errT g t = 1 from by unfold errT; rw [HR.out, if_pos rfl, if_pos HC.out, hf]; rfl)
    have HB := Lib.hid hb
    clear hf hG4 hA4 hb
    go_wp2
    go_ret
    exact ⟨by rw [HD.out]; rfl, HB.out⟩
  | true =>
  have HF := Lib.hid hf
  have CT := Lib.hid (r7things_any g t.size t (Nat.le_refl _) n₀ ga gc a c w4 hn4 hG4 hA4)
  clear hf hG4 hA4 hb
  go_wp2_with fail
  refine CT.out.mono ?_
  rintro e w5 ⟨rfl, hb5⟩
  have B5 := Lib.hid (B4.out.trans (hb5.mono B4.out.size))
  clear hb5 c0 c1 B4 CT
  obtain ⟨_, _, _, _, hb, _⟩ := L1.out w5 B5.out
  have HB := Lib.hid hb
  clear hb
  cases hp : predL g t.args with
  | true =>
    have HD := Lib.hid (show errT g t = 10 from by unfold errT; rw [HR.out, if_pos rfl, if_pos HC.out, HF.out, if_pos rfl, hp]; rfl)
    clear hp
    go_wp2
    go_ret
    exact ⟨by rw [HD.out]; rfl, HB.out⟩
  | false =>
    have HD := Lib.hid (show errT g t = 0 from by unfold errT; rw [HR.out, if_pos rfl, if_pos HC.out, HF.out, if_pos rfl, hp]; rfl)
    clear hp
    go_wp2
    go_ret
    exact ⟨by rw [HD.out]; rfl, HB.out⟩

end Go.Proofs.YtleohdddaadbeaaGreat
