/- The walk of LitOrder. -/
import Derived.Test.YtleohdddaadbeaaLcm
import Derived.Test.YtleohdddaadbeaaLsa
import Derived.Test.YtleohdddaadbeaaLso
import Derived.Test.YtleohdddaadbeaaLex
import Derived.Test.YtleohdddaadbeaaQBo
import Derived.Test.YtleohdddaadbeaaAw9
namespace Go.Proofs.Ytleohdddaadbeaa
set_option linter.unusedVariables false
set_option linter.unusedSimpArgs false
open Go.RowKit

theorem lc_ok {g : Sg} {x y : LV} (h : lcE g x y = 0) : lcR g x y = rowsT g (rowL x.n x.l x.r) (rowL y.n y.l y.r) := by
  unfold lcE at h
  by_cases q : errL g x.l x.r = 0
  · rw [if_pos q] at h
    unfold lcR; rw [if_pos q, if_pos h]
  · rw [if_neg q] at h; exact absurd h q

set_option maxRecDepth 100000 in
set_option maxHeartbeats 8000000 in
theorem litOrder_walk (g : Sg) (x y z : LV) (ga : Option Addr) (gc : Nat) (w : World) (hG : IsSg w.heap.size w g ga gc) (hX : IsLv w.heap.size w x) (hY : IsLv w.heap.size w y) (hZ : IsLv w.heap.size w z) :
    Calls Try.prog 4 #[.slice ga g.length gc, x.v, y.v, z.v] w fun e w' => e = .returned (.bool true) ∧ Below w.heap.size w w' := by
  have d0 := (((((((Later.below (Below.refl _ w)).and (later_lv hZ)).and (later_lv hY)).and (later_lv hX)).and (later_sg hG)).pushL (Below.refl _ _) x).pushL (Below.refl _ _) y).pushL (Below.refl _ _) z
  simp only [heap_alloc_size] at d0
  have CA := Lib.hid awake9_any
  have D := Lib.hid d0
  clear d0 hG hX hY hZ
  go_enter Try.func4, Try.ntmps4
  go_wp2_with fail
  generalize ((w.alloc x.obj).alloc y.obj).alloc z.obj = w1 at D ⊢
  generalize hb0 : w.heap.size = b0 at D ⊢
  have HB0 := Lib.hid hb0
  clear hb0
  refine (fewG_any g w1.heap.size ga gc w1 (Nat.le_refl _) D.out.now.2.2.2.1).mono ?_
  rintro e w2 ⟨f1, rfl, hb⟩
  have D2 := Lib.hid (D.out.mv hb)
  clear hb D
  cases f1
  case false =>
    have HQ := Lib.hid D2.out.now.2.2.2.2.2.2.2
    clear D2
    go_wp2
    go_ret
    exact ⟨rfl, by rw [HB0.out]; exact HQ.out⟩
  obtain ⟨_, _, ⟨x0, x1, x2, x3, x4⟩, _⟩ := D2.out.now
  go_wp2_with fail
  clear x0 x1 x2 x3 x4
  refine (litFew_any x w2.heap.size w2 (Nat.le_refl _) D2.out.now.2.2.2.2.1).mono ?_
  rintro e w3 ⟨f1, rfl, hf, hb⟩
  have D3 := Lib.hid (D2.out.mv hb)
  clear hb D2
  cases f1
  case false =>
    have HQ := Lib.hid D3.out.now.2.2.2.2.2.2.2
    clear D3 hf
    go_wp2
    go_ret
    exact ⟨rfl, by rw [HB0.out]; exact HQ.out⟩
  have FX := Lib.hid (sz_few (hf rfl))
  clear hf
  obtain ⟨_, ⟨x0, x1, x2, x3, x4⟩, _⟩ := D3.out.now
  go_wp2_with fail
  clear x0 x1 x2 x3 x4
  refine (litFew_any y w3.heap.size w3 (Nat.le_refl _) D3.out.now.2.2.2.2.2.1).mono ?_
  rintro e w4 ⟨f1, rfl, hf, hb⟩
  have D4 := Lib.hid (D3.out.mv hb)
  clear hb D3
  cases f1
  case false =>
    have HQ := Lib.hid D4.out.now.2.2.2.2.2.2.2
    clear D4 hf
    go_wp2
    go_ret
    exact ⟨rfl, by rw [HB0.out]; exact HQ.out⟩
  have FY := Lib.hid (sz_few (hf rfl))
  clear hf
  obtain ⟨⟨x0, x1, x2, x3, x4⟩, _⟩ := D4.out.now
  go_wp2_with fail
  clear x0 x1 x2 x3 x4
  refine (litFew_any z w4.heap.size w4 (Nat.le_refl _) D4.out.now.2.2.2.2.2.2.1).mono ?_
  rintro e w5 ⟨f1, rfl, hf, hb⟩
  have D5 := Lib.hid (D4.out.mv hb)
  clear hb D4
  cases f1
  case false =>
    have HQ := Lib.hid D5.out.now.2.2.2.2.2.2.2
    clear D5 hf
    go_wp2
    go_ret
    exact ⟨rfl, by rw [HB0.out]; exact HQ.out⟩
  have FZ := Lib.hid (sz_few (hf rfl))
  clear hf
  obtain ⟨⟨z0, z1, z2, z3, z4⟩, ⟨y0, y1, y2, y3, y4⟩, ⟨x0, x1, x2, x3, x4⟩, _⟩ := D5.out.now
  go_wp2_with fail
  refine (litCompare_any g x y FX.out FY.out w5.heap.size ga gc w5 (Nat.le_refl _) D5.out.now.2.2.2.1 D5.out.now.2.2.2.2.1 D5.out.now.2.2.2.2.2.1).mono ?_
  clear x0 x1 x2 x3 x4 y0 y1 y2 y3 y4 z0 z1 z2 z3 z4
  rintro e w6 ⟨rfl, hb⟩
  have D6 := Lib.hid (D5.out.mv hb)
  clear hb D5
  obtain ⟨⟨z0, z1, z2, z3, z4⟩, ⟨y0, y1, y2, y3, y4⟩, ⟨x0, x1, x2, x3, x4⟩, _⟩ := D6.out.now
  go_wp2_with fail
  refine (litCompare_any g y z FY.out FZ.out w6.heap.size ga gc w6 (Nat.le_refl _) D6.out.now.2.2.2.1 D6.out.now.2.2.2.2.2.1 D6.out.now.2.2.2.2.2.2.1).mono ?_
  clear x0 x1 x2 x3 x4 y0 y1 y2 y3 y4 z0 z1 z2 z3 z4
  rintro e w7 ⟨rfl, hb⟩
  have D7 := Lib.hid (D6.out.mv hb)
  clear hb D6
  obtain ⟨⟨z0, z1, z2, z3, z4⟩, ⟨y0, y1, y2, y3, y4⟩, ⟨x0, x1, x2, x3, x4⟩, _⟩ := D7.out.now
  go_wp2_with fail
  refine (litCompare_any g x z FX.out FZ.out w7.heap.size ga gc w7 (Nat.le_refl _) D7.out.now.2.2.2.1 D7.out.now.2.2.2.2.1 D7.out.now.2.2.2.2.2.2.1).mono ?_
  clear x0 x1 x2 x3 x4 y0 y1 y2 y3 y4 z0 z1 z2 z3 z4
  rintro e w8 ⟨rfl, hb⟩
  have D8 := Lib.hid (D7.out.mv hb)
  clear hb D7
  have FACT := Lib.hid (show lcE g x y = 0 → lcE g y z = 0 → lcE g x z = 0 → (lcR g x y = 0 ↔ samL x.n x.l x.r y.n y.l y.r = true) ∧ (oppL x.n x.l x.r y.n y.l y.r = true → x.n = true → lcR g x y = 1) ∧ (lcR g x y = 1 → lcR g y z = 1 → lcR g x z = 1) from fun h1 h2 h3 => by
    rw [lc_ok h1, lc_ok h2, lc_ok h3]
    exact ⟨lit_same, lit_neg, rowsT_trans⟩)
  generalize lcE g x y = e1 at FACT ⊢
  generalize lcE g y z = e2 at FACT ⊢
  generalize lcE g x z = e3 at FACT ⊢
  generalize lcR g x y = r1 at FACT ⊢
  generalize lcR g y z = r2 at FACT ⊢
  generalize lcR g x z = r3 at FACT ⊢
  have aw : ∀ (W : World) (hW : Below w8.heap.size w8 W), Calls Try.prog 12 #[] W fun e w' => e = .returned (.bool true) ∧ Below b0 w w' := fun W hW =>
    (CA.out W).mono fun e w' h => ⟨h.1, ((D8.out.mv hW).mv h.2).now.2.2.2.2.2.2.2⟩
  have AW := Lib.hid aw
  clear aw
  by_cases q1 : e1 = 0
  case neg =>
    have q1' : (e1 != 0) = true := by simpa using q1
    clear q1
    go_wp2_with fail
    refine (AW.out w8 (Below.refl _ _)).mono ?_
    rintro e w9 ⟨rfl, hb⟩
    have HQ := Lib.hid hb
    clear hb
    go_wp2
    go_ret
    exact ⟨rfl, by rw [HB0.out]; exact HQ.out⟩
  by_cases q2 : e2 = 0
  case neg =>
    have q2' : (e2 != 0) = true := by simpa using q2
    subst q1
    clear q2
    go_wp2_with fail
    refine (AW.out w8 (Below.refl _ _)).mono ?_
    rintro e w9 ⟨rfl, hb⟩
    have HQ := Lib.hid hb
    clear hb
    go_wp2
    go_ret
    exact ⟨rfl, by rw [HB0.out]; exact HQ.out⟩
  by_cases q3 : e3 = 0
  case neg =>
    have q3' : (e3 != 0) = true := by simpa using q3
    subst q1
    subst q2
    clear q3
    go_wp2_with fail
    refine (AW.out w8 (Below.refl _ _)).mono ?_
    rintro e w9 ⟨rfl, hb⟩
    have HQ := Lib.hid hb
    clear hb
    go_wp2
    go_ret
    exact ⟨rfl, by rw [HB0.out]; exact HQ.out⟩
  have FC := Lib.hid (FACT.out q1 q2 q3)
  subst q1
  subst q2
  subst q3
  clear FACT
  have CS := Lib.hid (litSame_any x y FX.out w8.heap.size w8 (Nat.le_refl _) D8.out.now.2.2.2.2.1 D8.out.now.2.2.2.2.2.1)
  have CO := Lib.hid (fun (W : World) (hW : Below w8.heap.size w8 W) => litOpposite_any x y FX.out W.heap.size W (Nat.le_refl _) (D8.out.mv hW).now.2.2.2.2.1 (D8.out.mv hW).now.2.2.2.2.2.1)
  generalize samL x.n x.l x.r y.n y.l y.r = s at FC CS
  generalize oppL x.n x.l x.r y.n y.l y.r = o at FC CO
  obtain ⟨_, ⟨y0, y1, y2, y3, y4⟩, ⟨x0, x1, x2, x3, x4⟩, _⟩ := D8.out.now
  go_wp2_with fail
  refine CS.out.mono ?_
  clear x0 x1 x2 x3 x4 y0 y1 y2 y3 y4
  rintro e w9 ⟨rfl, hb⟩
  have HB9 := Lib.hid hb
  have D9 := Lib.hid (D8.out.mv hb)
  clear hb
  have hs : s = decide (r1 = 0) := by
    rw [Bool.eq_iff_iff, decide_eq_true_eq]; exact FC.out.1.symm
  subst hs
  obtain ⟨_, ⟨y0, y1, y2, y3, y4⟩, ⟨x0, x1, x2, x3, x4⟩, _⟩ := D9.out.now
  have hcut : ((r1 == 0) != decide (r1 = 0)) = false := by by_cases h : r1 = 0 <;> simp [h]
  obtain ⟨sq, hsq⟩ : ∃ sq, decide (r1 = 0) = sq := ⟨_, rfl⟩
  have hsq2 : (r1 == 0) = sq := by rw [← hsq]; by_cases h : r1 = 0 <;> simp [h]
  rw [hsq] at hcut ⊢
  rw [hsq2] at hcut
  clear hsq
  have hxx : (sq != sq) = false := by cases sq <;> rfl
  go_wp2_with fail
  refine (CO.out w9 HB9.out).mono ?_
  clear x0 x1 x2 x3 x4 y0 y1 y2 y3 y4
  rintro e w10 ⟨rfl, hb⟩
  have HB10 := Lib.hid (HB9.out.trans (hb.mono HB9.out.size))
  have D10 := Lib.hid (D9.out.mv hb)
  clear hb D9 hsq2 hcut hxx
  obtain ⟨_, _, ⟨x0, _⟩, _⟩ := D10.out.now
  obtain ⟨n, hn⟩ : ∃ n, x.n = n := ⟨_, rfl⟩
  rw [hn] at x0
  have hopp : o = false ∨ (o = true ∧ n = false) ∨ (o = true ∧ n = true ∧ r1 = 1) := by
    cases o with
    | false => exact .inl rfl
    | true =>
      cases n with
      | false => exact .inr (.inl ⟨rfl, rfl⟩)
      | true => exact .inr (.inr ⟨rfl, rfl, FC.out.2.1 rfl hn⟩)
  have htr : (r1 != 1) = true ∨ (r1 = 1 ∧ (r2 != 1) = true) ∨ (r1 = 1 ∧ r2 = 1 ∧ r3 = 1) := by
    by_cases h1 : r1 = 1
    · by_cases h2 : r2 = 1
      · exact .inr (.inr ⟨h1, h2, FC.out.2.2 h1 h2⟩)
      · exact .inr (.inl ⟨h1, by simpa using h2⟩)
    · exact .inl (by simpa using h1)
  clear hn FC
  rcases htr with h1 | ⟨rfl, h2⟩ | ⟨rfl, rfl, rfl⟩ <;> rcases hopp with rfl | ⟨rfl, rfl⟩ | ⟨rfl, rfl, h⟩
  all_goals first
    | (exfalso; subst h; simp at h1; done)
    | (try clear h
       go_wp2_with fail
       refine (AW.out w10 HB10.out).mono ?_
       rintro e w11 ⟨rfl, hb⟩
       have HQ := Lib.hid hb
       clear hb
       go_wp2
       go_ret
       exact ⟨rfl, by rw [HB0.out]; exact HQ.out⟩)

end Go.Proofs.Ytleohdddaadbeaa
