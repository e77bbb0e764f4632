/- The walk of ClauseOrder. -/
import Derived.Test.YtbdabdjpgmnejaaGreatFw10
import Derived.Test.YtbdabdjpgmnejaaGreatAw10
import Derived.Test.YtbdabdjpgmnejaaGreatCmc
import Derived.Test.YtbdabdjpgmnejaaGreatApc
import Derived.Test.YtbdabdjpgmnejaaGreatQDk
import Derived.Test.YtbdabdjpgmnejaaGreatQDf
import Derived.Test.YtbdabdjpgmnejaaGreatQDa
import Derived.Deep.CutRange
namespace Go.Proofs.YtbdabdjpgmnejaaGreat
set_option linter.unusedVariables false
set_option linter.unusedSimpArgs false
open Go.RowKit

theorem shf_small (t : T) (y : Int) : (shfT t y).size ≤ 400 := by
  have h : ∀ t, (endT t).size ≤ 400 := fun t => by
    unfold endT
    by_cases h : t.check = 0
    · rw [if_pos h]; exact (check_ok h).1
    · rw [if_neg h]; simp [Z0, T.size, T.sizes]
  unfold shfT
  split
  · exact h _
  · simp [Z0, T.size, T.sizes]
theorem nm_len (c : List Lt3) : (nmL c).length ≤ c.length := by
  unfold nmL
  split <;> simp
theorem apa_small {A B : List Lt3} : T.sizes (sidesC (apaL A B)) ≤ 800 * B.length := by
  have key : ∀ n : List Lt3, T.sizes (sidesC (n.map (shfL (min (byC A) 255)))) ≤ 800 * n.length := by
    intro n
    induction n with
    | nil => simp [sidesC, T.sizes]
    | cons x n ih =>
      show T.sizes (shfT x.l _ :: shfT x.r _ :: sidesC (n.map _)) ≤ _
      have h1 := shf_small x.l (min (byC A) 255)
      have h2 := shf_small x.r (min (byC A) 255)
      simp only [T.sizes, List.length_cons]
      omega
  unfold apaL
  split
  · have h1 := key (nmL B)
    have h2 := nm_len B
    omega
  · simp [sidesC, T.sizes]
theorem apa_len (A B : List Lt3) : (apaL A B).length ≤ B.length := by
  have h2 := nm_len B
  unfold apaL
  split
  · simpa using h2
  · simp
theorem order10 {g : Sg} {a b c : List Lt3} : ccE g a b ≠ 0 ∨ ccE g b c ≠ 0 ∨ (ccE g a c = 0 ∧ (ccR g a b ≠ 1 ∨ ccR g b c ≠ 1 ∨ ccR g a c = 1)) := by
  by_cases h1 : errC g a = 0
  · by_cases h2 : errC g b = 0
    · by_cases h3 : errC g c = 0
      · refine .inr (.inr ⟨by unfold ccE; rw [if_pos h1]; exact h3, ?_⟩)
        have e1 : ccR g a b = stC g a b := by unfold ccR; rw [if_pos h1, if_pos h2]
        have e2 : ccR g b c = stC g b c := by unfold ccR; rw [if_pos h2, if_pos h3]
        have e3 : ccR g a c = stC g a c := by unfold ccR; rw [if_pos h1, if_pos h3]
        rw [e1, e2, e3]
        by_cases k1 : stC g a b = 1
        · by_cases k2 : stC g b c = 1
          · exact .inr (.inr (stC_trans k1 k2))
          · exact .inr (.inl k2)
        · exact .inl k1
      · refine .inr (.inl ?_)
        unfold ccE; rw [if_pos h2]; exact h3
    · refine .inl ?_
      unfold ccE; rw [if_pos h1]; exact h2
  · refine .inl ?_
    unfold ccE; rw [if_neg h1]; exact h1
theorem more10 {g : Sg} {a : List Lt3} {l : Lt3} : ccE g (a ++ [l]) a ≠ 0 ∨ ccR g (a ++ [l]) a = 1 := by
  by_cases h1 : errC g (a ++ [l]) = 0
  · by_cases h2 : errC g a = 0
    · exact .inr (by unfold ccR; rw [if_pos h1, if_pos h2, stC_push])
    · refine .inl ?_
      unfold ccE; rw [if_pos h1]; exact h2
  · refine .inl ?_
    unfold ccE; rw [if_neg h1]; exact h1
def OwnI10 (n : Nat) (w1 : World) (i : Value) (wr : World) : Prop := ∃ k : Nat, k ≤ n ∧ i = .int .i64 k ∧ Below w1.heap.size w1 wr

set_option maxRecDepth 100000 in
set_option maxHeartbeats 8000000 in
theorem clauseOrder_walk (g : Sg) (A B C : List LV) (l : LV) (ga : Option Addr) (gc : Nat) (pa : Option Addr) (ca : Nat) (pb : Option Addr) (cb : Nat) (pc : Option Addr) (cc : Nat) (w : World) (hG : IsSg w.heap.size w g ga gc) (hA : IsCl w.heap.size w A pa ca) (hB : IsCl w.heap.size w B pb cb) (hC : IsCl w.heap.size w C pc cc) (hL : IsLv w.heap.size w l) (hna : pa = none → ca = 0) :
    Calls Tryz.prog 4 #[.slice ga g.length gc, .slice pa A.length ca, .slice pb B.length cb, .slice pc C.length cc, l.v] w fun e w' => e = .returned (.bool true) ∧ Below w.heap.size w w' := by
  have hla := hA.1
  have hla2 := hA.2.1
  have hlb := hB.1
  have hlb2 := hB.2.1
  have hlc := hC.1
  have hlc2 := hC.2.1
  unfold maxLen at hla2 hlb2 hlc2
  obtain ⟨W1, hW1⟩ : ∃ W1, w.alloc l.obj = W1 := ⟨_, rfl⟩
  have hs1 : W1.heap.size = w.heap.size + 1 := by rw [← hW1]; simp
  have hF1 : Below w.heap.size w W1 := by rw [← hW1]; exact (Below.refl _ w).alloc (Nat.le_refl _) _
  have L1 := (show Later (Lc w.heap.size l) W1 from by rw [← hW1]; exact later_lc w l)
  have HS := Lib.hid (show ∀ W, Below W1.heap.size W1 W → IsSg w.heap.size W g ga gc ∧ IsCl w.heap.size W A pa ca ∧ IsCl w.heap.size W B pb cb ∧ IsCl w.heap.size W C pc cc ∧ IsLv w.heap.size W l ∧ Lc w.heap.size l W ∧ Below w.heap.size w W ∧ w.heap.size ≤ W.heap.size from fun W hW => by
    have h := hF1.trans (hW.mono hF1.size)
    exact ⟨hG.below h, hA.below h, hB.below h, hC.below h, hL.below h, L1.mv hW |>.now, h, h.size⟩)
  have HNA := Lib.hid hna
  obtain ⟨l0, l1, l2, l3, l4⟩ := L1.now
  have CF := Lib.hid (fewL10_any g A B w.heap.size ga gc pa ca pb cb W1 (by omega) (hG.below hF1) (hA.below hF1) (hB.below hF1))
  clear hG hA hB hC hL hF1 L1 hna
  go_enter Tryz.func4, Tryz.ntmps4
  go_wp2_with fail
  refine CF.out.mono ?_
  rintro e w2 ⟨b, rfl, hf, hb⟩
  have HB2 := Lib.hid hb
  clear hb CF hW1 l0 l1 l2 l3 l4
  cases b with
  | false =>
    clear hf
    have HR := Lib.hid (HS.out w2 HB2.out).2.2.2.2.2.2.1
    go_wp2
    go_ret
    exact ⟨rfl, HR.out⟩
  | true =>
  obtain ⟨hfa, hfb⟩ := hf rfl
  have HFA := Lib.hid hfa
  have HFB := Lib.hid hfb
  have hl1 := hfa.1
  have hl2 := hfb.1
  clear hf hfa hfb
  have CF2 := Lib.hid (few10_any C w.heap.size pc cc w2 (HS.out w2 HB2.out).2.2.2.2.2.2.2 (HS.out w2 HB2.out).2.2.2.1)
  go_wp2_with fail
  refine CF2.out.mono ?_
  rintro e w3 ⟨b, rfl, hf, hb⟩
  have HB3 := Lib.hid (HB2.out.trans (hb.mono HB2.out.size))
  clear hb CF2
  cases b with
  | false =>
    clear hf
    have HR := Lib.hid (HS.out w3 HB3.out).2.2.2.2.2.2.1
    go_wp2
    go_ret
    exact ⟨rfl, HR.out⟩
  | true =>
  have hfc : FewC C := hf rfl
  have HFC := Lib.hid hfc
  have hl3 := hfc.1
  clear hf hfc
  obtain ⟨l0, l1, l2, l3, l4⟩ := (HS.out w3 HB3.out).2.2.2.2.2.1
  have CF3 := Lib.hid (litFew_any l w.heap.size w3 (HS.out w3 HB3.out).2.2.2.2.2.2.2 (HS.out w3 HB3.out).2.2.2.2.1)
  go_wp2_with fail
  refine CF3.out.mono ?_
  rintro e w4 ⟨b, rfl, hf, hb⟩
  have HB4 := Lib.hid (HB3.out.trans (hb.mono HB3.out.size))
  clear hb CF3 l0 l1 l2 l3 l4
  cases b with
  | false =>
    clear hf
    have HR := Lib.hid (HS.out w4 HB4.out).2.2.2.2.2.2.1
    go_wp2
    go_ret
    exact ⟨rfl, HR.out⟩
  | true =>
  have hls := hf rfl
  have HLS := Lib.hid (show l.sz from ⟨by have := hls.1; omega, by have := hls.2; omega⟩)
  clear hf hls
  by_cases hq : 16 < A.length + B.length + C.length
  · have hq' : (16 : Int) < (A.length : Int) + (B.length : Int) + (C.length : Int) := by omega
    have HR := Lib.hid (HS.out w4 HB4.out).2.2.2.2.2.2.1
    clear hq
    go_wp2
    go_ret
    exact ⟨rfl, HR.out⟩
  have hq' : decide ((16 : Int) < (A.length : Int) + (B.length : Int) + (C.length : Int)) = false := decide_eq_false (by omega)
  have hab : A.length + B.length + C.length ≤ 16 := by omega
  clear hq
  have CC := Lib.hid (fun (W : World) (hW : Below W1.heap.size W1 W) (X Y : List LV) (px : Option Addr) (cx : Nat) (py : Option Addr) (cy : Nat) (h1 : ∀ x ∈ X, x.sz) (h2 : ∀ x ∈ Y, x.sz) (hX : IsCl W.heap.size W X px cx) (hY : IsCl W.heap.size W Y py cy) =>
    cCompare_any g X Y h1 h2 W.heap.size ga gc px cx py cy W (Nat.le_refl _) ((HS.out W hW).1.mono (HS.out W hW).2.2.2.2.2.2.2) hX hY)
  have HAM := Lib.hid (fun (W : World) (hW : Below W1.heap.size W1 W) => (HS.out W hW).2.1.mono (HS.out W hW).2.2.2.2.2.2.2)
  have HBM := Lib.hid (fun (W : World) (hW : Below W1.heap.size W1 W) => (HS.out W hW).2.2.1.mono (HS.out W hW).2.2.2.2.2.2.2)
  have HCM := Lib.hid (fun (W : World) (hW : Below W1.heap.size W1 W) => (HS.out W hW).2.2.2.1.mono (HS.out W hW).2.2.2.2.2.2.2)
  go_wp2_with fail
  refine (CC.out w4 HB4.out A B pa ca pb cb HFA.out.sz HFB.out.sz (HAM.out w4 HB4.out) (HBM.out w4 HB4.out)).mono ?_
  rintro e w5 ⟨rfl, hb⟩
  have HB5 := Lib.hid (HB4.out.trans (hb.mono HB4.out.size))
  clear hb
  have HO := Lib.hid (order10 (g := g) (a := t3s A) (b := t3s B) (c := t3s C))
  have C5 := Lib.hid (CC.out w5 HB5.out B C pb cb pc cc HFB.out.sz HFC.out.sz (HBM.out w5 HB5.out) (HCM.out w5 HB5.out))
  have C6 := Lib.hid (fun (W : World) (hW : Below W1.heap.size W1 W) => CC.out W hW A C pa ca pc cc HFA.out.sz HFC.out.sz (HAM.out W hW) (HCM.out W hW))
  generalize ccR g (t3s A) (t3s B) = x at HO ⊢
  generalize ccE g (t3s A) (t3s B) = e1 at HO ⊢
  generalize ccR g (t3s B) (t3s C) = y at HO C5 ⊢
  generalize ccE g (t3s B) (t3s C) = e2 at HO C5 ⊢
  generalize ccR g (t3s A) (t3s C) = z at HO C6 ⊢
  generalize ccE g (t3s A) (t3s C) = e3 at HO C6 ⊢
  go_wp2_with fail
  refine C5.out.mono ?_
  rintro e w6 ⟨rfl, hb⟩
  have HB6 := Lib.hid (HB5.out.trans (hb.mono HB5.out.size))
  clear hb C5
  go_wp2_with fail
  refine (C6.out w6 HB6.out).mono ?_
  rintro e w7 ⟨rfl, hb⟩
  have HB7 := Lib.hid (HB6.out.trans (hb.mono HB6.out.size))
  clear hb C6
  have hS7 : SrcL w7 A pa ca := SrcL.of_cl (HAM.out w7 HB7.out) HNA.out
  have HS7 := Lib.hid hS7
  clear hS7
  go_wp2_with (at_builtin; refine stopHere ?_)
  refine Lib.hid ?_
  refine wpList_append_ls rfl _ _ rfl (· < w.heap.size) W1.heap.size (.slice none 0 0) [] rfl (OL.nil _ _ _) HB7.out.size A pa ca rfl HS7.out (by simp; omega) ?_
  intro v8 w8 hown8 hg8 hv8
  have HO8 := Lib.hid (show OL (· < w.heap.size) W1.heap.size v8 A w8 from by
    have h := (OL.nil (· < w.heap.size) W1.heap.size w7).append (ls := A) hown8 hg8 (fun b hb => ⟨Nat.lt_of_lt_of_le hb (HS.out w7 HB7.out).2.2.2.2.2.2.2, by simp [Value.ownBlock]⟩) (fun y hy => by
      obtain ⟨i, hi, e⟩ := List.getElem_of_mem hy
      obtain ⟨_, _, y', _, _, hy', _, hyl⟩ := (HS.out w7 HB7.out).2.1.elem hi
      rw [List.getElem?_eq_getElem hi, e] at hy'
      cases hy'
      exact isLvp_lt.2 hyl)
    simpa using h)
  have HB8 := Lib.hid (show Below W1.heap.size W1 w8 from HB7.out.trans ((Below.refl W1.heap.size _).grown hg8 HB7.out.size (fun k e => by simp [Value.ownBlock] at e)))
  obtain ⟨p8, c8, rfl, _⟩ := HO8.out.args (fun b hb => Nat.lt_of_lt_of_le hb (HS.out w8 HB8.out).2.2.2.2.2.2.2)
  clear hown8 hg8 hv8 HS7
  obtain ⟨l0, l1, l2, l3, l4⟩ := (HS.out w8 HB8.out).2.2.2.2.2.1
  obtain ⟨W9, hW9⟩ : ∃ W9, w8.alloc l.obj = W9 := ⟨_, rfl⟩
  have hs9 : W9.heap.size = w8.heap.size + 1 := by rw [← hW9]; simp
  have hF9 : Below w8.heap.size w8 W9 := by rw [← hW9]; exact (Below.refl _ w8).alloc (Nat.le_refl _) _
  obtain ⟨y0, y1, y2, y3, y4⟩ := (show Later (Lc w8.heap.size l) W9 from by rw [← hW9]; exact later_lc w8 l).now
  have HS9 := Lib.hid (show SrcL W9 [l] (some ⟨w8.heap.size, 0, none⟩) 1 from SrcL.of_one ⟨y0, by simpa using y1, by simpa using y2, by simpa using y3, by simpa using y4⟩)
  have HB9 := Lib.hid (HB8.out.trans (hF9.mono HB8.out.size))
  have HO9 := Lib.hid (HO8.out.later (fun b hb => Nat.lt_of_lt_of_le hb (HS.out w8 HB8.out).2.2.2.2.2.2.2) hF9)
  clear hF9 y0 y1 y2 y3 y4
  go_wp2_with (at_builtin; refine stopHere ?_)
  refine Lib.hid ?_
  refine wpList_append_ls rfl _ _ rfl (· < w.heap.size) W1.heap.size (.slice p8 A.length c8) A rfl HO9.out HB9.out.size [l] (some ⟨w8.heap.size, 0, none⟩) 1 rfl HS9.out (by simp; omega) ?_
  intro v10 w10 hown10 hg10 hv10
  have HO10 := Lib.hid (HO9.out.append hown10 hg10 (fun b hb => ⟨Nat.lt_of_lt_of_le hb (HS.out W9 HB9.out).2.2.2.2.2.2.2, fun e => by have h1 := (HO9.out.block e).1; have : b < w.heap.size := hb; omega⟩) (fun y hy => by
    simp at hy; subst hy
    exact isLvp_lt.2 (HS.out W9 HB9.out).2.2.2.2.1))
  have HB10 := Lib.hid (show Below W1.heap.size W1 w10 from HB9.out.trans ((Below.refl W1.heap.size _).grown hg10 HB9.out.size (fun k e => (HO9.out.block e).1)))
  obtain ⟨p10, c10, e10, hcl10⟩ := HO10.out.args (fun b hb => Nat.lt_of_lt_of_le hb (HS.out w10 HB10.out).2.2.2.2.2.2.2)
  have hC10 := CC.out w10 HB10.out (A ++ [l]) A p10 c10 pa ca (fun x hx => by
    rcases List.mem_append.1 hx with hx | hx
    · exact HFA.out.sz x hx
    · simp at hx; subst hx; exact HLS.out) HFA.out.sz hcl10 (HAM.out w10 HB10.out)
  rw [show (A ++ [l]).length = A.length + 1 from by simp] at e10 hC10
  rw [show t3s (A ++ [l]) = t3s A ++ [l.t3] from by simp] at hC10
  subst e10
  have HC10 := Lib.hid hC10
  have HI := Lib.hid (more10 (g := g) (a := t3s A) (l := l.t3))
  generalize ccR g (t3s A ++ [l.t3]) (t3s A) = x2 at HC10 HI ⊢
  generalize ccE g (t3s A ++ [l.t3]) (t3s A) = e4 at HC10 HI ⊢
  clear hown10 hg10 hv10 hcl10 hC10 HO8 HO9 HO10 HS9 l0 l1 l2 l3 l4 hW9
  go_wp2_with fail
  refine HC10.out.mono ?_
  rintro e w11 ⟨rfl, hb⟩
  have HB11 := Lib.hid (HB10.out.trans (hb.mono HB10.out.size))
  clear hb HC10 CC HCM
  have ho := HO.out
  have hi := HI.out
  clear HO HI
  have ho2 : e1 ≠ 0 ∨ (e1 = 0 ∧ e2 ≠ 0) ∨ (e1 = 0 ∧ e2 = 0 ∧ e3 = 0 ∧ x ≠ 1) ∨ (e1 = 0 ∧ e2 = 0 ∧ e3 = 0 ∧ x = 1 ∧ y ≠ 1) ∨ (e1 = 0 ∧ e2 = 0 ∧ e3 = 0 ∧ x = 1 ∧ y = 1 ∧ z = 1) := by omega
  have hi2 : e4 ≠ 0 ∨ (e4 = 0 ∧ x2 = 1) := by omega
  clear ho hi
  have HO2 := Lib.hid ho2
  have HI2 := Lib.hid hi2
  clear ho2 hi2
  go_upto_region 10 with fail
  go_cut [119] from 90 to 119 (fun v119 wx => v119 = .bool false ∧ wx = w11)
  case first =>
    have ho2 := HO2.out
    have hi2 := HI2.out
    rcases hi2 with h4 | ⟨rfl, rfl⟩
    · have h4' : (e4 == 0) = false := by simpa using h4
      clear h4
      rcases ho2 with h1 | ⟨rfl, h2⟩ | ⟨rfl, rfl, rfl, h3⟩ | ⟨rfl, rfl, rfl, rfl, h3⟩ | ⟨rfl, rfl, rfl, rfl, rfl, rfl⟩
      · have h1' : (e1 == 0) = false := by simpa using h1
        clear h1
        go_wp2_with fail
        go_meet
        exact ⟨rfl, rfl⟩
      · have h2' : (e2 == 0) = false := by simpa using h2
        clear h2
        go_wp2_with fail
        go_meet
        exact ⟨rfl, rfl⟩
      · have h3' : (x == 1) = false := by simpa using h3
        clear h3
        go_wp2_with fail
        go_meet
        exact ⟨rfl, rfl⟩
      · have h3' : (y == 1) = false := by simpa using h3
        clear h3
        go_wp2_with fail
        go_meet
        exact ⟨rfl, rfl⟩
      · go_wp2_with fail
        go_meet
        exact ⟨rfl, rfl⟩
    · rcases ho2 with h1 | ⟨rfl, h2⟩ | ⟨rfl, rfl, rfl, h3⟩ | ⟨rfl, rfl, rfl, rfl, h3⟩ | ⟨rfl, rfl, rfl, rfl, rfl, rfl⟩
      · have h1' : (e1 == 0) = false := by simpa using h1
        clear h1
        go_wp2_with fail
        go_meet
        exact ⟨rfl, rfl⟩
      · have h2' : (e2 == 0) = false := by simpa using h2
        clear h2
        go_wp2_with fail
        go_meet
        exact ⟨rfl, rfl⟩
      · have h3' : (x == 1) = false := by simpa using h3
        clear h3
        go_wp2_with fail
        go_meet
        exact ⟨rfl, rfl⟩
      · have h3' : (y == 1) = false := by simpa using h3
        clear h3
        go_wp2_with fail
        go_meet
        exact ⟨rfl, rfl⟩
      · go_wp2_with fail
        go_meet
        exact ⟨rfl, rfl⟩
  case rest =>
    obtain ⟨rfl, rfl⟩ := hcut
    clear HO2 HI2
    have hsa := Nat.le_trans HFA.out.2 (show 500 ≤ 100000 by omega)
    have hsb := Nat.le_trans HFB.out.2 (show 500 ≤ 100000 by omega)
    go_wp2_with fail
    refine (cApart_any A B (by omega) (by omega) hsa hsb wc.heap.size pa ca pb cb wc (Nat.le_refl _) (HAM.out wc HB11.out) (HBM.out wc HB11.out)).mono ?_
    rintro e w12 ⟨P, pp, cp, hP, rfl, hcP, hb⟩
    have HB12 := Lib.hid (HB11.out.trans (hb.mono HB11.out.size))
    have HP := Lib.hid hP
    have HCP := Lib.hid hcP
    have hlP : P.length ≤ 16 := by
      have h1 := congrArg List.length hP
      have h2 := apa_len (t3s A) (t3s B)
      simp at h1 h2
      omega
    have hsP : T.sizes (sidesC (t3s P)) ≤ 100000 := by
      rw [hP]
      refine Nat.le_trans apa_small ?_
      simp; omega
    have HSP := Lib.hid (show ∀ W, Below w12.heap.size w12 W → IsCl W.heap.size W P pp cp from fun W hW => (hcP.below hW).mono hW.size)
    clear hb hP hcP
    have CN1 := Lib.hid (cNorm_any B (by omega) hsb w12.heap.size pb cb w12 (Nat.le_refl _) (HBM.out w12 HB12.out))
    have HJ := Lib.hid (show apaE (t3s A) (t3s B) = 0 → nmE (t3s B) = 0 ∧ nmE (t3s P) = 0 ∧ nmL (t3s P) = nmL (t3s B) from fun h => by
      have h1 := apart_same h
      rw [← HP.out] at h1
      exact ⟨(apart_ok h).2, h1.1, h1.2⟩)
    have HJ0 := Lib.hid (show apaE (t3s A) (t3s B) ≠ 0 → P.length = 0 from fun h => by
      have h1 := apart_bad h
      rw [← HP.out] at h1
      have := congrArg List.length h1
      simpa using this)
    have HDJ := Lib.hid (show apaE (t3s A) (t3s B) = 0 → ∀ v ∈ T.rvs [] (sidesC (t3s P)), v ∉ T.rvs [] (sidesC (t3s A)) from fun h v hv => by
      rw [HP.out] at hv
      exact apart_dis h hv)
    generalize apaE (t3s A) (t3s B) = j at HJ HJ0 HDJ ⊢
    go_wp2_with fail
    refine CN1.out.mono ?_
    rintro e w13 ⟨M, pm, cm, hM, rfl, hcM, hb⟩
    have HB13 := Lib.hid (HB12.out.trans (hb.mono HB12.out.size))
    have HW13 := Lib.hid hb
    have HM := Lib.hid hM
    have HSM := Lib.hid (show ∀ W, Below w13.heap.size w13 W → IsCl W.heap.size W M pm cm from fun W hW => (hcM.below hW).mono hW.size)
    clear hb hM hcM CN1
    have CN2 := Lib.hid (cNorm_any P (by omega) hsP w13.heap.size pp cp w13 (Nat.le_refl _) (HSP.out w13 HW13.out))
    generalize nmE (t3s B) = k at HJ ⊢
    go_wp2_with fail
    refine CN2.out.mono ?_
    rintro e w14 ⟨N, pn, cn, hN, rfl, hcN, hb⟩
    have HB14 := Lib.hid (HB13.out.trans (hb.mono HB13.out.size))
    have HW14 := Lib.hid (HW13.out.trans (hb.mono HW13.out.size))
    have HM14 := Lib.hid hb
    have HN := Lib.hid hN
    have HSN := Lib.hid (show ∀ W, Below w14.heap.size w14 W → IsCl W.heap.size W N pn cn from fun W hW => (hcN.below hW).mono hW.size)
    clear hb hN hcN CN2
    generalize nmE (t3s P) = o at HJ ⊢
    by_cases hj : j = 0
    case neg =>
      have hj' : (j != 0) = true := by simpa using hj
      have hp0 := HJ0.out hj
      rw [hp0]
      clear hj hp0
      go_wp2_with fail
      refine (awake10_any w14).mono ?_
      rintro e w15 ⟨rfl, hb⟩
      have HR := Lib.hid (HS.out w15 (HB14.out.trans (hb.mono HB14.out.size))).2.2.2.2.2.2.1
      clear hb
      go_wp2
      go_ret
      exact ⟨rfl, HR.out⟩
    subst hj
    obtain ⟨rfl, rfl, hnm⟩ := HJ.out rfl
    have HE := Lib.hid (show t3s M = t3s N from by rw [HM.out, HN.out, hnm])
    have HD := Lib.hid (HDJ.out rfl)
    clear hnm HJ HJ0 HDJ
    have CV1 := Lib.hid (cVars_any A (by omega) (Nat.le_trans hsa (by omega)) w14.heap.size pa ca w14 (Nat.le_refl _) (HAM.out w14 HB14.out))
    go_wp2_with fail
    refine CV1.out.mono ?_
    rintro e w15 ⟨v15, rfl, hi, hb⟩
    obtain ⟨pv, cv, rfl, hV⟩ := ints_sl10 hi
    have HB15 := Lib.hid (HB14.out.trans (hb.mono HB14.out.size))
    have HW15 := Lib.hid hb
    have HV := Lib.hid hV
    have hvl : (T.rvs [] (sidesC (t3s A))).length ≤ cv ∧ cv ≤ maxLen := ⟨hV.1, hV.2.1⟩
    unfold maxLen at hvl
    obtain ⟨hv1, hv2⟩ := hvl
    clear hi hV hb CV1
    have CV2 := Lib.hid (cVars_any P (by omega) (Nat.le_trans hsP (by omega)) w15.heap.size pp cp w15 (Nat.le_refl _) (HSP.out w15 (HW14.out.trans (HW15.out.mono HW14.out.size))))
    generalize T.rvs [] (sidesC (t3s A)) = V at HV HD hv1 ⊢
    go_wp2_with fail
    refine CV2.out.mono ?_
    rintro e w16 ⟨v16, rfl, hi, hb⟩
    obtain ⟨pu, cu, rfl, hU⟩ := ints_sl10 hi
    have HB16 := Lib.hid (HB15.out.trans (hb.mono HB15.out.size))
    have HU := Lib.hid hU
    have HV16 := Lib.hid ((HV.out.below hb).mono hb.size)
    have HW16 := Lib.hid (HW15.out.trans (hb.mono HW15.out.size))
    have hul : (T.rvs [] (sidesC (t3s P))).length ≤ cu ∧ cu ≤ maxLen := ⟨hU.1, hU.2.1⟩
    unfold maxLen at hul
    obtain ⟨hu1, hu2⟩ := hul
    clear hi hU hb CV2 HV
    generalize T.rvs [] (sidesC (t3s P)) = U at HU HD hu1 ⊢
    go_wp2
    go_loopw [28] (fun i wr => OwnI10 U.length w16 i wr) (fun i _ => U.length - (intOf i).toNat)
    case atStart => exact ⟨0, Nat.zero_le _, rfl, Below.refl _ _⟩
    case round =>
      obtain ⟨k, hk, rfl, hB⟩ := hrel
      have HBB := Lib.hid hB
      have hbz := hB.size
      clear hB
      by_cases hlt : k < U.length
      · obtain ⟨vb, vo, v, rfl, hvb, hv, hcv⟩ := (HU.out.below HBB.out).elem (k := k) hlt
        have hk0 : (0 : Int) ≤ (k : Int) := Int.natCast_nonneg _
        have hk1 : (k : Int) < (U.length : Int) := by omega
        have hnot : decide (v ∈ V) = false := decide_eq_false (HD.out v (List.mem_of_getElem? hv))
        have CI := Lib.hid (in_any v V w16.heap.size pv cv wr hbz (HV16.out.below HBB.out))
        rw [hnot] at CI
        clear hv hnot
        go_wp2_with fail
        refine CI.out.mono ?_
        rintro e w17 ⟨rfl, hb⟩
        have HB17 := Lib.hid (HBB.out.trans (hb.mono hbz))
        clear hb CI
        go_wp2
        go_roundw
        case rel => exact ⟨k + 1, by omega, by go_num, HB17.out⟩
        case measure => simp [intOf]; omega
      · obtain rfl : k = U.length := by omega
        have HB17 := Lib.hid (HB16.out.trans (HBB.out.mono HB16.out.size))
        have HW17 := Lib.hid (HW16.out.trans (HBB.out.mono HW16.out.size))
        go_wp2_with fail
        refine (awake10_any wr).mono ?_
        rintro e w18 ⟨rfl, hb⟩
        have HB18 := Lib.hid (HB17.out.trans (hb.mono HB17.out.size))
        have HW18 := Lib.hid (HW17.out.trans (hb.mono HW17.out.size))
        have CE := Lib.hid (exact10_any M N HE.out (fun x hx => by
          have h1 := nm_size (t3s B)
          rw [← HM.out] at h1
          have h2 : T.sizes (sidesC (t3s M)) ≤ 100000 := Nat.le_trans h1 hsb
          have h3 := (sides_sz h2).1 x hx
          exact ⟨by have := h3.1; omega, by have := h3.2; omega⟩) w18.heap.size pm cm pn cn w18 (Nat.le_refl _) (HSM.out w18 (HM14.out.trans (HW18.out.mono HM14.out.size))) (HSN.out w18 HW18.out))
        clear hb
        go_wp2_with fail
        refine CE.out.mono ?_
        rintro e w19 ⟨rfl, hb⟩
        have HR := Lib.hid (HS.out w19 (HB18.out.trans (hb.mono HB18.out.size))).2.2.2.2.2.2.1
        clear hb CE
        go_wp2
        go_ret
        exact ⟨rfl, HR.out⟩

end Go.Proofs.YtbdabdjpgmnejaaGreat
