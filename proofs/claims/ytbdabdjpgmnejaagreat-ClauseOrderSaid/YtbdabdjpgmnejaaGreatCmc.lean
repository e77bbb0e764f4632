/- Contracts of clause's multi and Compare. -/
import Derived.Test.YtbdabdjpgmnejaaGreatMlc
import Derived.Test.YtbdabdjpgmnejaaGreatSdc
import Derived.Test.YtbdabdjpgmnejaaGreatQDg
namespace Go.Proofs.YtbdabdjpgmnejaaGreat
set_option linter.unusedVariables false
set_option linter.unusedSimpArgs false
open Go.RowKit

def mulR (r : Lt3 → Lt3 → Int) (a b : List Lt3) : Int := if (wiP a b).length = 0 ∧ (wiP b a).length = 0 then 0 else if exR r (wiP a b) (wiP b a) then 1 else if exR r (wiP b a) (wiP a b) then -1 else 2
theorem mulR_eq (g : Sg) (a b : List Lt3) : mulR (standL g) a b = stC g a b := muC_eq g a b

set_option maxRecDepth 100000 in
set_option maxHeartbeats 4000000 in
theorem multi_lit (f : Nat) (lb : Array Value) (eg : ∀ args w, (callFunc f args).run Tryz.prog w = .ok (.enter f args) w) (r : Lt3 → Lt3 → Int) (ok : LV → Prop) (A B : List LV) (hla : A.length ≤ 1000000) (hlb : B.length ≤ 1000000) (hsa : ∀ x ∈ A, x.sz) (hsb : ∀ x ∈ B, x.sz) (hoa : ∀ x ∈ A, ok x) (hob : ∀ x ∈ B, ok x) (n₀ : Nat) (pa : Option Addr) (ca : Nat) (pb : Option Addr) (cb : Nat) (w : World) (hn : n₀ ≤ w.heap.size) (hA : IsCl n₀ w A pa ca) (hB : IsCl n₀ w B pb cb)
    (hp : ∀ n, n₀ ≤ n → CmpL f lb r ok n w) :
    Calls Tryz.prog 22 #[.slice pa A.length ca, .slice pb B.length cb, fnS, .func (.func f) #[] lb] w fun e w' => e = .returned (.int .i64 (mulR r (t3s A) (t3s B))) ∧ Below w.heap.size w w' := by
  have HA := Lib.hid (hA.mono hn)
  have HB := Lib.hid (hB.mono hn)
  have HP := Lib.hid (show ∀ n W, n₀ ≤ n → Below w.heap.size w W → CmpL f lb r ok n W from fun n W h1 hW X x y hx hy h0 hX hxl hyl => hp n h1 X x y hx hy h0 (hW.trans (hX.mono hW.size)) hxl hyl)
  have HO := Lib.hid (And.intro hoa hob)
  clear hA hB hp hoa hob
  go_enter Tryz.func22, Tryz.ntmps22
  go_wp2_with fail
  refine (without_any A B hla hlb hsa w.heap.size pa ca pb cb w (Nat.le_refl _) HA.out HB.out).mono ?_
  rintro e w2 ⟨P, v2, rfl, hP, hPA, hO2, hb2⟩
  obtain ⟨p2, c2, rfl, hc2⟩ := hO2.args (fun b hb => Nat.lt_of_lt_of_le hb hb2.size)
  have HP2 := Lib.hid (And.intro hP hPA)
  have HC2 := Lib.hid hc2
  have HB2 := Lib.hid hb2
  clear hP hPA hO2 hc2 hb2
  go_wp2_with fail
  refine (without_any B A hlb hla hsb w.heap.size pb cb pa ca w2 HB2.out.size (HB.out.below HB2.out) (HA.out.below HB2.out)).mono ?_
  rintro e w3 ⟨Q, v3, rfl, hQ, hQB, hO3, hb3⟩
  have hz3 : w.heap.size ≤ w3.heap.size := Nat.le_trans HB2.out.size hb3.size
  obtain ⟨p3, c3, rfl, hc3⟩ := hO3.args (fun b hb => by have : b < w.heap.size := hb; omega)
  have HQ3 := Lib.hid (And.intro hQ hQB)
  have HC3 := Lib.hid hc3
  have HC23 := Lib.hid ((HC2.out.below hb3).mono hb3.size)
  have HB3 := Lib.hid (HB2.out.trans (hb3.mono HB2.out.size))
  clear hQ hQB hO3 hc3 hb3
  have HL := Lib.hid (show (wiP (t3s A) (t3s B)).length = P.length ∧ (wiP (t3s B) (t3s A)).length = Q.length from ⟨by rw [← HP2.out.1]; simp, by rw [← HQ3.out.1]; simp⟩)
  have C1 := Lib.hid (exceedL_any f lb eg r ok P Q (fun x hx => HO.out.1 x (HP2.out.2 x hx)) (fun x hx => HO.out.2 x (HQ3.out.2 x hx)) w3.heap.size p2 c2 p3 c3 w3 (Nat.le_refl _) HC23.out HC3.out (fun n h => HP.out n w3 (by omega) HB3.out))
  rw [HP2.out.1, HQ3.out.1] at C1
  by_cases h0 : P.length = 0 ∧ Q.length = 0
  · have HE := Lib.hid (show mulR r (t3s A) (t3s B) = 0 from by unfold mulR; rw [HL.out.1, HL.out.2, if_pos h0])
    obtain ⟨h1, h2⟩ := h0
    rw [h1, h2]
    clear h1 h2 C1
    go_wp2
    go_ret
    exact ⟨by rw [HE.out]; rfl, HB3.out⟩
  · have HE := Lib.hid (show mulR r (t3s A) (t3s B) = if exR r (wiP (t3s A) (t3s B)) (wiP (t3s B) (t3s A)) then 1 else if exR r (wiP (t3s B) (t3s A)) (wiP (t3s A) (t3s B)) then -1 else 2 from by unfold mulR; rw [HL.out.1, HL.out.2, if_neg h0])
    have hcase : (P.length = 0 ∧ ((Q.length : Int) == 0) = false) ∨ ((P.length : Int) == 0) = false := by
      by_cases h1 : P.length = 0
      · exact .inl ⟨h1, by simp; exact fun e => h0 ⟨h1, by simpa using e⟩⟩
      · exact .inr (by simp; simpa using h1)
    clear h0
    have C2 := Lib.hid (fun (W : World) (hW : Below w3.heap.size w3 W) => exceedL_any f lb eg r ok Q P (fun x hx => HO.out.2 x (HQ3.out.2 x hx)) (fun x hx => HO.out.1 x (HP2.out.2 x hx)) W.heap.size p3 c3 p2 c2 W (Nat.le_refl _) ((HC3.out.below hW).mono hW.size) ((HC23.out.below hW).mono hW.size) (fun n h => HP.out n W (by have := hW.size; omega) (HB3.out.trans (hW.mono hz3))))
    rw [HP2.out.1, HQ3.out.1] at C2
    clear eg
    generalize wiP (t3s A) (t3s B) = X at C1 C2 HE
    generalize wiP (t3s B) (t3s A) = Y at C1 C2 HE
    rcases hcase with ⟨h1, h2⟩ | h1
    · simp only [h1] at C1 C2 ⊢
      clear h1
      go_wp2_with fail
      refine C1.out.mono ?_
      rintro e w4 ⟨rfl, hb4⟩
      have HB4 := Lib.hid hb4
      clear hb4 C1
      cases hq : exR r X Y with
      | true =>
        have HE1 := Lib.hid (show mulR r (t3s A) (t3s B) = 1 from by rw [HE.out, hq]; rfl)
        clear hq
        go_wp2
        go_ret
        exact ⟨by rw [HE1.out]; rfl, HB3.out.trans (HB4.out.mono hz3)⟩
      | false =>
        have HE1 := Lib.hid (show mulR r (t3s A) (t3s B) = if exR r Y X then -1 else 2 from by rw [HE.out, hq]; rfl)
        clear hq
        go_wp2_with fail
        refine (C2.out w4 HB4.out).mono ?_
        rintro e w5 ⟨rfl, hb5⟩
        have HB5 := Lib.hid ((HB3.out.trans (HB4.out.mono hz3)).trans (hb5.mono (Nat.le_trans hz3 HB4.out.size)))
        clear hb5 C2
        cases hq2 : exR r Y X with
        | true =>
          have HE2 := Lib.hid (show mulR r (t3s A) (t3s B) = -1 from by rw [HE1.out, hq2]; rfl)
          clear hq2
          go_wp2
          go_ret
          exact ⟨by rw [HE2.out]; rfl, HB5.out⟩
        | false =>
          have HE2 := Lib.hid (show mulR r (t3s A) (t3s B) = 2 from by rw [HE1.out, hq2]; rfl)
          clear hq2
          go_wp2
          go_ret
          exact ⟨by rw [HE2.out]; rfl, HB5.out⟩
    · go_wp2_with fail
      refine C1.out.mono ?_
      rintro e w4 ⟨rfl, hb4⟩
      have HB4 := Lib.hid hb4
      clear hb4 C1
      cases hq : exR r X Y with
      | true =>
        have HE1 := Lib.hid (show mulR r (t3s A) (t3s B) = 1 from by rw [HE.out, hq]; rfl)
        clear hq
        go_wp2
        go_ret
        exact ⟨by rw [HE1.out]; rfl, HB3.out.trans (HB4.out.mono hz3)⟩
      | false =>
        have HE1 := Lib.hid (show mulR r (t3s A) (t3s B) = if exR r Y X then -1 else 2 from by rw [HE.out, hq]; rfl)
        clear hq
        go_wp2_with fail
        refine (C2.out w4 HB4.out).mono ?_
        rintro e w5 ⟨rfl, hb5⟩
        have HB5 := Lib.hid ((HB3.out.trans (HB4.out.mono hz3)).trans (hb5.mono (Nat.le_trans hz3 HB4.out.size)))
        clear hb5 C2
        cases hq2 : exR r Y X with
        | true =>
          have HE2 := Lib.hid (show mulR r (t3s A) (t3s B) = -1 from by rw [HE1.out, hq2]; rfl)
          clear hq2
          go_wp2
          go_ret
          exact ⟨by rw [HE2.out]; rfl, HB5.out⟩
        | false =>
          have HE2 := Lib.hid (show mulR r (t3s A) (t3s B) = 2 from by rw [HE1.out, hq2]; rfl)
          clear hq2
          go_wp2
          go_ret
          exact ⟨by rw [HE2.out]; rfl, HB5.out⟩

/-! ### Compare -/
def okL (g : Sg) (x : LV) : Prop := errL g x.l x.r = 0 ∧ x.sz
theorem lcR_ok {g : Sg} {x y : LV} (hx : okL g x) (hy : okL g y) : lcR g x y = standL g x.t3 y.t3 := by
  unfold lcR
  rw [if_pos hx.1, if_pos hy.1]; rfl

set_option maxRecDepth 100000 in
set_option maxHeartbeats 2000000 in
theorem cmpL1_any (g : Sg) (x y : LV) (hx : okL g x) (hy : okL g y) (n₀ m₀ : Nat) (ga : Option Addr) (gc Bg : Nat) (W : World) (hn : n₀ ≤ W.heap.size) (hm : m₀ ≤ W.heap.size) (hG : IsSg m₀ W g ga gc) (hX : IsLv n₀ W x) (hY : IsLv n₀ W y) (hb : Bg < W.heap.size) (hc : W.cell? ⟨Bg, 0, none⟩ = some (.slice ga g.length gc)) :
    Calls Tryz.prog 24 #[x.v, y.v, .pointer (some ⟨Bg, 0, none⟩)] W fun e w' => e = .returned (.int .i64 (standL g x.t3 y.t3)) ∧ Below W.heap.size W w' := by
  obtain ⟨W1, hW1⟩ : ∃ W1, (W.alloc x.obj).alloc y.obj = W1 := ⟨_, rfl⟩
  have hF1 : Below W.heap.size W W1 := by rw [← hW1]; exact ((Below.refl _ W).alloc (Nat.le_refl _) _).alloc (by simp) _
  have c0 : W1.cell? ⟨Bg, 0, none⟩ = some (.slice ga g.length gc) := (hF1.cell (p := ⟨Bg, 0, none⟩) hb).trans hc
  have d0 := ((Later.below (Below.refl _ W)).pushL (Below.refl _ _) x).pushL ((Below.refl _ _)) y
  rw [hW1] at d0
  obtain ⟨⟨y0, y1, y2, y3, y4⟩, ⟨x0, x1, x2, x3, x4⟩, _⟩ := d0.now
  simp only [heap_alloc_size] at y0 y1 y2 y3 y4
  have hlv : IsSg W1.heap.size W1 g ga gc := (hG.below (hF1.mono hm)).mono (Nat.le_trans hm hF1.size)
  have HC := Lib.hid (litCompare_any g x y hx.2 hy.2 W1.heap.size ga gc W1 (Nat.le_refl _) hlv ((hX.below (hF1.mono hn)).mono (Nat.le_trans hn hF1.size)) ((hY.below (hF1.mono hn)).mono (Nat.le_trans hn hF1.size)))
  have HE := Lib.hid (lcR_ok hx hy)
  have HF1 := Lib.hid hF1
  clear hG hX hY hF1 hc d0 hlv
  go_enter Tryz.func24, Tryz.ntmps24
  go_wp2_with fail
  refine HC.out.mono ?_
  rintro e w2 ⟨rfl, hb2⟩
  have HB := Lib.hid (HF1.out.trans (hb2.mono HF1.out.size))
  clear hb2 HC
  rw [HE.out]
  generalize lcE g x y = ee
  obtain ⟨q, hq⟩ : ∃ q, standL g x.t3 y.t3 = q := ⟨_, rfl⟩
  have HQ := Lib.hid hq
  rw [hq]
  clear hq
  go_wp2
  go_ret
  exact ⟨by rw [HQ.out]; rfl, HB.out⟩

set_option maxRecDepth 100000 in
set_option maxHeartbeats 4000000 in
theorem cCompare_any (g : Sg) (A B : List LV) (hsa : ∀ x ∈ A, x.sz) (hsb : ∀ x ∈ B, x.sz) (n₀ : Nat) (ga : Option Addr) (gc : Nat) (pa : Option Addr) (ca : Nat) (pb : Option Addr) (cb : Nat) (w : World) (hn : n₀ ≤ w.heap.size) (hG : IsSg n₀ w g ga gc) (hA : IsCl n₀ w A pa ca) (hB : IsCl n₀ w B pb cb) :
    Calls Tryz.prog 7 #[.slice ga g.length gc, .slice pa A.length ca, .slice pb B.length cb] w fun e w' => e = .returned (.tuple #[.int .i64 (ccR g (t3s A) (t3s B)), .int .i64 (ccE g (t3s A) (t3s B))]) ∧ Below w.heap.size w w' := by
  obtain ⟨W1, hW1⟩ : ∃ W1, w.alloc (.cells #[.slice ga g.length gc] 22) = W1 := ⟨_, rfl⟩
  have hs1 : W1.heap.size = w.heap.size + 1 := by rw [← hW1]; simp
  have hF1 : Below w.heap.size w W1 := by rw [← hW1]; exact (Below.refl _ w).alloc (Nat.le_refl _) _
  have hg1 : W1.cell? ⟨w.heap.size, 0, none⟩ = some (.slice ga g.length gc) := by rw [← hW1]; simp [go_sem]
  have HG := Lib.hid ((hG.below (hF1.mono hn)).mono (show n₀ ≤ W1.heap.size by omega))
  have HA := Lib.hid ((hA.below (hF1.mono hn)).mono (show n₀ ≤ W1.heap.size by omega))
  have HB := Lib.hid ((hB.below (hF1.mono hn)).mono (show n₀ ≤ W1.heap.size by omega))
  have HF1 := Lib.hid hF1
  have HS1 := Lib.hid hs1
  have KG := Lib.hid (show ∀ W, Below W1.heap.size W1 W → W.cell? ⟨w.heap.size, 0, none⟩ = some (.slice ga g.length gc) from fun W hW => (hW.cell (p := ⟨w.heap.size, 0, none⟩) (by show w.heap.size < W1.heap.size; omega)).trans hg1)
  have HSZ := Lib.hid (And.intro hsa hsb)
  have eg := enters_of Tryz.func24 (by kernel_rfl) rfl
  clear hG hA hB hF1 hsa hsb
  go_enter Tryz.func7, Tryz.ntmps7
  go_wp2_with fail
  refine (cCheck_any g A HSZ.out.1 W1.heap.size ga gc pa ca W1 (Nat.le_refl _) HG.out HA.out).mono ?_
  rintro e w2 ⟨rfl, hb2⟩
  have HB2 := Lib.hid hb2
  have hz2 := hb2.size
  have g2 := KG.out w2 hb2
  clear hb2 hg1 hW1
  by_cases h1 : errC g (t3s A) = 0
  case neg =>
    obtain ⟨k, hk⟩ : ∃ k, errC g (t3s A) = k := ⟨_, rfl⟩
    have HE := Lib.hid (show ccR g (t3s A) (t3s B) = 0 ∧ ccE g (t3s A) (t3s B) = k from ⟨by unfold ccR; rw [if_neg h1], by unfold ccE; rw [if_neg h1, hk]⟩)
    rw [hk] at h1 ⊢
    have h2 : (k != 0) = true := by simpa using h1
    clear h1 hk
    go_wp2
    refine bodyPost_ret (v := .tuple #[.int .i64 0, .int .i64 k]) (by simp [results, Tryz.results7, go_sem]) rfl ?_
    exact ⟨by rw [HE.out.1, HE.out.2], HF1.out.trans (HB2.out.mono HF1.out.size)⟩
  have H1 := Lib.hid h1
  rw [h1]
  clear h1
  go_wp2_with fail
  refine (cCheck_any g B HSZ.out.2 W1.heap.size ga gc pb cb w2 hz2 (HG.out.below HB2.out) (HB.out.below HB2.out)).mono ?_
  rintro e w3 ⟨rfl, hb3⟩
  have HB3 := Lib.hid (HB2.out.trans (hb3.mono hz2))
  have hz3 : W1.heap.size ≤ w3.heap.size := Nat.le_trans hz2 hb3.size
  clear hb3
  by_cases h2 : errC g (t3s B) = 0
  case neg =>
    obtain ⟨k, hk⟩ : ∃ k, errC g (t3s B) = k := ⟨_, rfl⟩
    have HE := Lib.hid (show ccR g (t3s A) (t3s B) = 0 ∧ ccE g (t3s A) (t3s B) = k from ⟨by unfold ccR; rw [if_pos H1.out, if_neg h2], by unfold ccE; rw [if_pos H1.out, hk]⟩)
    rw [hk] at h2 ⊢
    have h3 : (k != 0) = true := by simpa using h2
    clear h2 hk
    go_wp2
    refine bodyPost_ret (v := .tuple #[.int .i64 0, .int .i64 k]) (by simp [results, Tryz.results7, go_sem]) rfl ?_
    exact ⟨by rw [HE.out.1, HE.out.2], HF1.out.trans (HB3.out.mono HF1.out.size)⟩
  have HE := Lib.hid (show ccR g (t3s A) (t3s B) = stC g (t3s A) (t3s B) ∧ ccE g (t3s A) (t3s B) = 0 from ⟨by unfold ccR; rw [if_pos H1.out, if_pos h2], by unfold ccE; rw [if_pos H1.out, h2]⟩)
  obtain ⟨_, hla, hoa⟩ := errC_ok H1.out
  obtain ⟨_, hlb, hob⟩ := errC_ok h2
  have hla' : A.length ≤ 32 := by simpa using hla
  have hlb' : B.length ≤ 32 := by simpa using hlb
  have CS := multi_lit 24 #[.pointer (some ⟨w.heap.size, 0, none⟩)] eg (standL g) (okL g) A B (by omega) (by omega) HSZ.out.1 HSZ.out.2 (fun x hx => ⟨hoa x.t3 (List.mem_map.2 ⟨x, hx, rfl⟩), HSZ.out.1 x hx⟩) (fun x hx => ⟨hob x.t3 (List.mem_map.2 ⟨x, hx, rfl⟩), HSZ.out.2 x hx⟩) W1.heap.size pa ca pb cb w3 hz3 (HA.out.below HB3.out) (HB.out.below HB3.out)
    (fun n hn' W x y hx hy hnw hW hX hY => by
      have hW1 : Below W1.heap.size W1 W := HB3.out.trans (hW.mono hz3)
      have hsz := hW1.size
      have hq := HS1.out
      exact cmpL1_any g x y hx hy n W1.heap.size ga gc w.heap.size W hnw hsz (HG.out.below hW1) hX hY (by omega) (KG.out W hW1))
  rw [mulR_eq] at CS
  have CS := Lib.hid CS
  rw [h2]
  clear h2 hla hlb hoa hob hla' hlb' eg g2
  have g3 := KG.out w3 HB3.out
  go_wp2_with fail
  refine CS.out.mono ?_
  rintro e w4 ⟨rfl, hb4⟩
  have HB4 := Lib.hid (HB3.out.trans (hb4.mono hz3))
  clear hb4 CS
  generalize stC g (t3s A) (t3s B) = st at HE ⊢
  go_wp2
  refine bodyPost_ret (v := .tuple #[.int .i64 st, .int .i64 0]) (by simp [results, Tryz.results7, go_sem]) rfl ?_
  exact ⟨by rw [HE.out.1, HE.out.2], HF1.out.trans (HB4.out.mono HF1.out.size)⟩

end Go.Proofs.YtbdabdjpgmnejaaGreat
