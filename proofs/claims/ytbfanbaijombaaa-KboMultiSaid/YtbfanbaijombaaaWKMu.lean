/- The walk of KboMulti. -/
import Derived.Test.YtbfanbaijombaaaQ1o
import Derived.Test.YtbfanbaijombaaaQ1p
import Derived.Deep.RegionHeld3
namespace Go.Proofs.Ytbfanbaijombaaa
set_option linter.unusedVariables false
set_option linter.unusedSimpArgs false
open Go.RowKit Go.Maps

theorem len_sizes_mu : (ts : List T) → ts.length ≤ T.sizes ts
  | [] => Nat.zero_le _
  | t :: ts => by
    have := len_sizes_mu ts
    have := T.size_pos t
    simp only [T.sizes, List.length_cons]
    omega
theorem nil_own {n₁ : Nat} {W : World} {g : Nat} (e : (Value.slice none 0 0).ownBlock = some g) : n₁ ≤ g := ((OA.nil n₁ W).block e).1
theorem grown_below {n₁ : Nat} {w w' : World} {v : Value} (hn : n₁ ≤ w.heap.size) (hg : w.grownBy w' v.ownBlock) (hv : ∀ g, v.ownBlock = some g → n₁ ≤ g) : Below n₁ w w' :=
  ⟨hg.os, hg.tape, hg.output, hg.size, fun k hk => hg.block k (by omega) (fun e => by have := hv k e.symm; omega)⟩
theorem mu_e (g : Sg) (a b : List T) (t : T) (h : muE g (t :: a) (b ++ [t]) = 0) : errF g a = 0 ∧ errF g b = 0 ∧ errT g t = 0 := by
  unfold muE at h
  by_cases h1 : errF g (t :: a) = 0
  · rw [if_pos h1] at h
    rw [errF_app] at h
    rw [errF_cons] at h1
    by_cases h2 : errT g t = 0
    · rw [if_neg (fun e => e h2)] at h1
      by_cases h3 : errF g b = 0
      · exact ⟨h1, h3, h2⟩
      · rw [if_neg h3] at h; exact absurd h h3
    · rw [if_pos h2] at h1; exact absurd h1 h2
  · rw [if_neg h1] at h; exact absurd h h1
theorem mu_zero {g : Sg} {a b : List T} (h1 : errF g a = 0) (h2 : errF g b = 0) : muE g a b = 0 ∧ muR g a b = rowsT g a b := by
  unfold muE muR; rw [if_pos h1, if_pos h1, if_pos h2]; exact ⟨h2, rfl⟩
theorem mu_cons {g : Sg} {a : List T} {t : T} (h1 : errF g a = 0) (h2 : errT g t = 0) : errF g (t :: a) = 0 := by
  rw [errF_cons, if_neg (fun e => e h2)]; exact h1

set_option maxRecDepth 100000 in
set_option maxHeartbeats 8000000 in
theorem kboMulti_walk (g : Sg) (A B : List T) (t : T) (ga : Option Addr) (gc : Nat) (pa : Option Addr) (ca : Nat) (pb : Option Addr) (cb : Nat) (pt : Option Addr) (ct : Nat) (w : World) (htw : (Lit.int .i64 t.head).wf = true)
    (hG : IsSg w.heap.size w g ga gc) (hA : IsArgs w.heap.size w A pa ca) (hB : IsArgs w.heap.size w B pb cb) (hT : IsArgs w.heap.size w t.args pt ct) (hna : pa = none → ca = 0) (hnb : pb = none → cb = 0) :
    Calls Try.prog 8 #[.slice ga g.length gc, .slice pa A.length ca, .slice pb B.length cb, tm t.head pt t.args.length ct] w fun e w' => e = .returned (.bool true) ∧ Below w.heap.size w w' := by
  have hla := hA.1
  have hla2 := hA.2.1
  have hlb := hB.1
  have hlb2 := hB.2.1
  unfold maxLen at hla2 hlb2
  have HTW := Lib.hid htw
  have CA := Lib.hid awake8_any
  have d0 := (((((Later.below (Below.refl _ w)).and (later_sg hG)).and (later_args hB)).and (later_args hA)).and (later_args hT)).push (Below.refl _ _) t.head pt t.args.length ct
  have D := Lib.hid d0
  clear htw hG hA hB hT d0
  go_enter Try.func8, Try.ntmps8
  go_wp2_with fail
  generalize w.alloc (tmCells t.head pt t.args.length ct) = w1 at D ⊢
  generalize hb0 : w.heap.size = b0 at D ⊢
  have HB0 := Lib.hid hb0
  clear hb0
  refine (few8_any g A w1.heap.size ga gc pa ca w1 (Nat.le_refl _) D.out.now.2.2.2.2.1 D.out.now.2.2.1).mono ?_
  rintro e w2 ⟨f1, rfl, hfa, hb⟩
  have D2 := Lib.hid (D.out.mv hb)
  clear hb D
  cases f1
  case false =>
    have HQ := Lib.hid D2.out.now.2.2.2.2.2
    clear D2 hfa
    go_wp2
    go_ret
    exact ⟨rfl, by rw [HB0.out]; exact HQ.out⟩
  have HFA := Lib.hid (hfa rfl)
  clear hfa
  go_wp2_with fail
  refine (few8_any g B w2.heap.size ga gc pb cb w2 (Nat.le_refl _) D2.out.now.2.2.2.2.1 D2.out.now.2.2.2.1).mono ?_
  rintro e w3 ⟨f1, rfl, hfb, hb⟩
  have D3 := Lib.hid (D2.out.mv hb)
  clear hb D2
  cases f1
  case false =>
    have HQ := Lib.hid D3.out.now.2.2.2.2.2
    clear D3 hfb
    go_wp2
    go_ret
    exact ⟨rfl, by rw [HB0.out]; exact HQ.out⟩
  have HFB := Lib.hid (hfb rfl)
  clear hfb
  obtain ⟨⟨x0, x1⟩, _⟩ := D3.out.now
  go_wp2_with fail
  clear x0 x1
  have D4 := Lib.hid (D3.out.pushC (Below.refl _ _) #[.int .i64 t.head, .slice pt t.args.length ct] 25)
  generalize w3.alloc (.cells #[.int .i64 t.head, .slice pt t.args.length ct] 25) = w4 at D4 ⊢
  generalize w3.heap.size = b3 at D4 ⊢
  clear D3
  refine (few8_any g [t] w4.heap.size ga gc _ 1 w4 (Nat.le_refl _) D4.out.now.2.2.2.2.2.1 (row_of1 D4.out.now.1 HTW.out D4.out.now.2.2.1)).mono ?_
  rintro e w5 ⟨f1, rfl, hft, hb⟩
  have D5 := Lib.hid (show Later _ _ from fun X hX => (D4.out.mv hb X hX).2)
  clear hb D4
  cases f1
  case false =>
    have HQ := Lib.hid D5.out.now.2.2.2.2.2
    clear D5 hft
    go_wp2
    go_ret
    exact ⟨rfl, by rw [HB0.out]; exact HQ.out⟩
  have hzt := hft rfl
  simp only [T.sizes] at hzt
  clear hft
  have hA5 : A.length ≤ 500 := Nat.le_trans (len_sizes_mu A) HFA.out
  have hB5 : B.length ≤ 500 := Nat.le_trans (len_sizes_mu B) HFB.out
  by_cases q20 : (20 : Int) < (A.length : Int) + (B.length : Int)
  · have HQ := Lib.hid D5.out.now.2.2.2.2.2
    clear D5
    go_wp2
    go_ret
    exact ⟨rfl, by rw [HB0.out]; exact HQ.out⟩
  have HSA := Lib.hid (show ∀ s ∈ A, s.size ≤ 1000000000000 from fun s hs => by have := mem_sizes hs; have := HFA.out; omega)
  have HSB := Lib.hid (show ∀ s ∈ B, s.size ≤ 1000000000000 from fun s hs => by have := mem_sizes hs; have := HFB.out; omega)
  go_wp2_with fail
  refine (multi_any g A B (by omega) (by omega) HSA.out HSB.out w5.heap.size ga gc pa ca pb cb w5 (Nat.le_refl _) D5.out.now.2.2.2.2.1 D5.out.now.2.2.1 D5.out.now.2.2.2.1).mono ?_
  rw [mulV_eq]
  rintro e w6 ⟨rfl, hb⟩
  have D6 := Lib.hid (D5.out.mv hb)
  clear hb D5
  obtain ⟨⟨x0, x1⟩, hT6, hA6, hB6, _⟩ := D6.out.now
  have hal : Below w6.heap.size w6 (w6.alloc (.cells #[.int .i64 t.head, .slice pt t.args.length ct] 25)) := (Below.refl _ _).alloc (Nat.le_refl _) _
  have HSRC := Lib.hid (show Src w6.heap.size (w6.alloc (.cells #[.int .i64 t.head, .slice pt t.args.length ct] 25)) [t] (some ⟨w6.heap.size, 0, none⟩) 1 from
    Src.of_one HTW.out (hT6.below hal) w6.heap.size (by simp [go_sem]) (by simp [go_sem]))
  have HAL := Lib.hid hal
  clear hal hT6 hA6 hB6
  go_wp2_with (at_builtin; refine stopHere ?_)
  generalize w6.alloc (.cells #[.int .i64 t.head, .slice pt t.args.length ct] 25) = w7 at HSRC HAL ⊢
  refine Lib.hid ?_
  refine wpList_append_ts rfl _ _ rfl w6.heap.size _ [] rfl (OA.nil _ _) HAL.out.size [t] _ _ rfl HSRC.out (by simp) ?_
  intro v8 w8 hO8 hg8 hv8
  have hb8 : Below w6.heap.size w6 w8 := HAL.out.trans (grown_below HAL.out.size hg8 (fun g e => nil_own (W := w7) e))
  have HB8 := Lib.hid hb8
  have HO8 := Lib.hid hO8
  clear hO8 hg8 hv8 hb8 HSRC HAL x0 x1
  go_wp2_with (at_builtin; refine stopHere ?_)
  refine Lib.hid ?_
  refine wpList_append_ts rfl _ _ rfl w6.heap.size _ ([] ++ [t]) rfl HO8.out HB8.out.size A _ _ rfl (Src.of_args ((D6.out.now.2.2.1).below HB8.out) hna) (by simp; omega) ?_
  intro v9 w9 hO9 hg9 hv9
  have HB9 := Lib.hid (HB8.out.trans (grown_below HB8.out.size hg9 (fun g e => (HO8.out.block e).1)))
  have HO9 := Lib.hid hO9
  clear hO9 hg9 hv9 HO8 HB8
  go_wp2_with (at_builtin; refine stopHere ?_)
  refine Lib.hid ?_
  refine wpList_append_ts rfl _ _ rfl w6.heap.size _ [] rfl (OA.nil _ _) HB9.out.size B _ _ rfl (Src.of_args ((D6.out.now.2.2.2.1).below HB9.out) hnb) (by simp; omega) ?_
  intro v10 w10 hO10 hg10 hv10
  have hb10 : Below w6.heap.size w9 w10 := grown_below HB9.out.size hg10 (fun g e => nil_own (W := w9) e)
  have HB10 := Lib.hid (HB9.out.trans hb10)
  have HO10 := Lib.hid hO10
  have HM10 := Lib.hid (HO9.out.kept hb10 (fun g e => hg10.block g (HO9.out.block e).2 (fun e' => by cases e')))
  have HNE := Lib.hid (show ∀ g, v9.ownBlock = some g → v10.ownBlock ≠ some g from fun g e e' => by
    have h9 := (HO9.out.block e).2
    rcases hv10 with h | h
    · rw [h] at e'; cases e'
    · rw [h] at e'; have := Option.some.inj e'; omega)
  clear hb10 hO10 hg10 hv10 HO9 HB9
  obtain ⟨⟨x0, x1⟩, _⟩ := D6.out w10 HB10.out
  have hal : Below w10.heap.size w10 (w10.alloc (.cells #[.int .i64 t.head, .slice pt t.args.length ct] 25)) := (Below.refl _ _).alloc (Nat.le_refl _) _
  have HSRC := Lib.hid (show Src w6.heap.size (w10.alloc (.cells #[.int .i64 t.head, .slice pt t.args.length ct] 25)) [t] (some ⟨w10.heap.size, 0, none⟩) 1 from
    Src.of_one HTW.out ((D6.out.now.2.1).below (HB10.out.trans (hal.mono HB10.out.size))) w10.heap.size (by simp [go_sem]) (by simp [go_sem]))
  have HAL := Lib.hid hal
  clear hal
  go_wp2_with (at_builtin; refine stopHere ?_)
  generalize w10.alloc (.cells #[.int .i64 t.head, .slice pt t.args.length ct] 25) = w11 at HSRC HAL ⊢
  have HB11 := Lib.hid (HB10.out.trans (HAL.out.mono HB10.out.size))
  have HO11 := Lib.hid (HO10.out.later HB10.out.size HAL.out)
  have HM11 := Lib.hid (HM10.out.later HB10.out.size HAL.out)
  refine Lib.hid ?_
  refine wpList_append_ts rfl _ _ rfl w6.heap.size _ ([] ++ B) rfl HO11.out HB11.out.size [t] _ _ rfl HSRC.out (by simp; omega) ?_
  intro v12 w12 hO12 hg12 hv12
  have hb12 : Below w6.heap.size w11 w12 := grown_below HB11.out.size hg12 (fun g e => (HO11.out.block e).1)
  have hm12 := HM11.out.kept hb12 (fun g e => hg12.block g (HM11.out.block e).2 (fun e' => HNE.out g e e'.symm))
  have D12 := Lib.hid (show Later _ w12 from fun X hX => D6.out X ((HB11.out.trans hb12).trans (hX.mono (Nat.le_trans HB11.out.size hb12.size))))
  have hn12 : w6.heap.size ≤ w12.heap.size := Nat.le_trans HB11.out.size hb12.size
  obtain ⟨am, cm, rfl, hM⟩ := hm12.args hn12
  obtain ⟨ao, co, rfl, hO⟩ := hO12.args hn12
  have e1 : (([] : List T) ++ [t]) ++ A = t :: A := rfl
  have e2 : (([] : List T) ++ B) ++ [t] = B ++ [t] := rfl
  rw [e1] at hM ⊢
  rw [e2] at hO ⊢
  obtain ⟨M, hMe⟩ : ∃ M, t :: A = M := ⟨_, rfl⟩
  obtain ⟨O, hOe⟩ : ∃ O, B ++ [t] = O := ⟨_, rfl⟩
  rw [hMe] at hM ⊢
  rw [hOe] at hO ⊢
  have HME := Lib.hid hMe
  have HOE := Lib.hid hOe
  have hm5 : M.length ≤ 1000 := by rw [← hMe]; simp; omega
  have ho5 : O.length ≤ 1000 := by rw [← hOe]; simp; omega
  have HSM := Lib.hid (show ∀ s ∈ M, s.size ≤ 1000000000000 from fun s hs => by rw [← hMe] at hs; rcases List.mem_cons.1 hs with rfl | hs; omega; exact HSA.out s hs)
  have HSO := Lib.hid (show ∀ s ∈ O, s.size ≤ 1000000000000 from fun s hs => by rw [← hOe] at hs; rcases List.mem_append.1 hs with hs | hs; exact HSB.out s hs; simp at hs; subst hs; omega)
  clear hMe hOe
  have DM := Lib.hid (later_args hM)
  have DO := Lib.hid (later_args hO)
  have hml := hM.1
  have hol := hO.1
  clear hO12 hg12 hv12 hb12 hm12 hn12 hM hO e1 e2 HB11 HO11 HM11 HNE HSRC HAL HM10 HO10 HB10 D6 x0 x1
  go_wp2_with fail
  refine (multi_any g M O (by omega) (by omega) HSM.out HSO.out w12.heap.size ga gc am cm ao co w12 (Nat.le_refl _) D12.out.now.2.2.2.2.1 DM.out.now DO.out.now).mono ?_
  rw [mulV_eq]
  rintro e w13 ⟨rfl, hb⟩
  have D13 := Lib.hid (D12.out.mv hb)
  have DM13 := Lib.hid (DM.out.mv hb)
  clear hb D12 DM DO
  go_wp2_with fail
  refine (multi_any g M A (by omega) (by omega) HSM.out HSA.out w13.heap.size ga gc am cm pa ca w13 (Nat.le_refl _) D13.out.now.2.2.2.2.1 DM13.out.now D13.out.now.2.2.1).mono ?_
  rw [mulV_eq]
  rintro e w14 ⟨rfl, hb⟩
  have D14 := Lib.hid (D13.out.mv hb)
  clear hb D13 DM13
  by_cases hf : muE g M O = 0
  case neg =>
    have hk : (muE g M O != 0) = true := by simpa using hf
    generalize muE g M O = f at *
    generalize muE g M A = h
    generalize muE g A B = e1
    generalize muR g A B = x
    generalize muR g M O = y
    generalize muR g M A = z
    go_wp2_with fail
    refine (CA.out _).mono ?_
    rintro e w15 ⟨rfl, hb⟩
    have HQ := Lib.hid (D14.out _ hb).2.2.2.2.2
    clear hb
    by_cases he : e1 = 0
    · subst he
      go_wp2
      go_ret
      exact ⟨rfl, by rw [HB0.out]; exact HQ.out⟩
    · have he2 : (e1 == 0) = false := by simpa using he
      go_wp2
      go_ret
      exact ⟨rfl, by rw [HB0.out]; exact HQ.out⟩
  obtain ⟨ha0, hb0, ht0⟩ := mu_e g A B t (by rw [HME.out, HOE.out]; exact hf)
  obtain ⟨m1, m2⟩ := mu_zero ha0 hb0
  have hta := mu_cons ha0 ht0
  obtain ⟨m3, m4⟩ := mu_zero hta ha0
  obtain ⟨_, m6⟩ := mu_zero hta (show errF g (B ++ [t]) = 0 from by rw [errF_app, if_pos hb0, errF_one]; exact ht0)
  rw [rowsT_both, HME.out, HOE.out] at m6
  rw [rowsT_more, HME.out] at m4
  rw [HME.out] at m3
  rw [m1, m2, m3, m4, hf, m6]
  clear m1 m2 m3 m4 m6 hf hta ht0
  by_cases hl : A.length = 1 ∧ B.length = 1
  case neg =>
    have hcs : ((A.length : Int) == 1) = false ∨ (((A.length : Int) == 1) = true ∧ ((B.length : Int) == 1) = false) := by
      by_cases h1 : A.length = 1
      · have h2 : ¬ B.length = 1 := fun h2 => hl ⟨h1, h2⟩
        exact .inr ⟨by simp [h1], by simp; omega⟩
      · exact .inl (by simp; omega)
    have hcs2 : (¬ (A.length : Int) = 1) ∨ ((A.length : Int) = 1 ∧ ¬ (B.length : Int) = 1) := by
      by_cases h1 : A.length = 1
      · have h2 : ¬ B.length = 1 := fun h2 => hl ⟨h1, h2⟩
        exact .inr ⟨by omega, by omega⟩
      · exact .inl (by omega)
    generalize rowsT g A B = x
    clear hl ha0 hb0 hcs
    rcases hcs2 with h1 | ⟨h1, h2⟩
    all_goals
      go_wp2_with fail
      refine (CA.out _).mono ?_
      rintro e w15 ⟨rfl, hb⟩
      have HQ := Lib.hid (D14.out _ hb).2.2.2.2.2
      clear hb
      go_wp2
      go_ret
      exact ⟨by simp, by rw [HB0.out]; exact HQ.out⟩
  obtain ⟨hl1, hl2⟩ := hl
  obtain ⟨a0, rfl⟩ : ∃ a0, A = [a0] := List.length_eq_one_iff.1 hl1
  obtain ⟨c0, rfl⟩ : ∃ c0, B = [c0] := List.length_eq_one_iff.1 hl2
  obtain ⟨bA, oA, s1, aA, cA, hpA, hbnA, hs1, hsw1, eA0, eA1, hAA⟩ := (D14.out.now.2.2.1).elem (i := 0) (by simp)
  obtain ⟨bB, oB, s2, aB, cB, hpB, hbnB, hs2, hsw2, eB0, eB1, hAB⟩ := (D14.out.now.2.2.2.1).elem (i := 0) (by simp)
  simp only [List.getElem?_cons_zero, Option.some.injEq] at hs1 hs2
  subst hs1 hs2 hpA hpB
  simp only [Nat.zero_mul, Nat.add_zero] at eA0 eA1 eB0 eB1
  have KP := Lib.hid (show ∀ W, Below w14.heap.size w14 W → (W.cell? ⟨bA, oA, none⟩ = some (.int .i64 a0.head) ∧ W.cell? ⟨bA, oA + 1, none⟩ = some (.slice aA a0.args.length cA)) ∧ (W.cell? ⟨bB, oB, none⟩ = some (.int .i64 c0.head) ∧ W.cell? ⟨bB, oB + 1, none⟩ = some (.slice aB c0.args.length cB)) ∧ Below w14.heap.size w14 W from fun W hW =>
    ⟨⟨(hW.cell (p := ⟨bA, _, none⟩) hbnA).trans eA0, (hW.cell (p := ⟨bA, _, none⟩) hbnA).trans eA1⟩, ⟨(hW.cell (p := ⟨bB, _, none⟩) hbnB).trans eB0, (hW.cell (p := ⟨bB, _, none⟩) hbnB).trans eB1⟩, hW⟩)
  have hcv : cmpV g a0 c0 = .tuple #[.int .i64 (rowsT g [a0] [c0]), .int .i64 0] := by
    rw [errF_one] at ha0 hb0
    unfold cmpV
    rw [if_pos (errF_pair ha0 hb0), rowsT_one]
  have CK := Lib.hid (show ∀ W, Below w14.heap.size w14 W → Calls Try.prog 10 #[.slice ga g.length gc, tm a0.head aA a0.args.length cA, tm c0.head aB c0.args.length cB] W fun e w' => e = .returned (.tuple #[.int .i64 (rowsT g [a0] [c0]), .int .i64 0]) ∧ Below W.heap.size W w' from fun W hW => by
    have := kCompare_any g a0 c0 (HSA.out a0 (by simp)) (HSB.out c0 (by simp)) W.heap.size ga gc aA cA aB cB W (Nat.le_refl _) (D14.out W hW).2.2.2.2.1 hsw1 hsw2 ((hAA.below hW).mono hW.size) ((hAB.below hW).mono hW.size)
    rwa [hcv] at this)
  obtain ⟨⟨p0, p1⟩, ⟨p2, p3⟩, _⟩ := KP.out w14 (Below.refl _ _)
  clear hcv hAA hAB eA0 eA1 eB0 eB1 hbnA hbnB ha0 hb0 hsw1 hsw2
  generalize rowsT g [a0] [c0] = x at *
  go_wp2_with fail
  refine wp_region_noPanic ?_
  go_region_held3 (fun w' => (w'.cell? ⟨bA, oA, none⟩ = some (.int .i64 a0.head) ∧ w'.cell? ⟨bA, oA + 1, none⟩ = some (.slice aA a0.args.length cA)) ∧ (w'.cell? ⟨bB, oB, none⟩ = some (.int .i64 c0.head) ∧ w'.cell? ⟨bB, oB + 1, none⟩ = some (.slice aB c0.args.length cB)) ∧ Below w14.heap.size w14 w')
    (first
      | exact KP.out _ (Below.refl _ _)
      | exact KP.out _ (Below.refl _ _).drew
      | exact KP.out _ hB)
    (first
      | (go_at_call 10; with_reducible refine (CK.out _ (‹_ ∧ _ ∧ Below w14.heap.size w14 _›.2.2)).mono ?_; rintro e u1 ⟨rfl, hu⟩; have hB := bl_call (‹_ ∧ _ ∧ Below w14.heap.size w14 _›.2.2) hu; have hfin := hB))
  all_goals
    refine NoPanic.normal ?_
    go_wp2_with fail
    refine (CA.out _).mono ?_
    rintro e w16 ⟨rfl, hb⟩
    have HQ := Lib.hid (D14.out _ (hfin.trans (hb.mono hfin.size))).2.2.2.2.2
    clear hb
    go_wp2
    go_ret
    exact ⟨by simp, by rw [HB0.out]; exact HQ.out⟩

end Go.Proofs.Ytbfanbaijombaaa
