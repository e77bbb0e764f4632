/- Q1f: joined of Wg, Wpl. -/
import Derived.Test.YtbfanbaijombaaaQ1e
import Derived.Test.YtbfanbaijombaaaHd
import Derived.Lib.QuietBelow
import Derived.Deep.QuietTactic
import Derived.BigQuiet
/- Contract of weigh's Weight: a sum over a map. -/
namespace Go.Proofs.Ytbfanbaijombaaa
set_option linter.unusedVariables false
set_option linter.unusedSimpArgs false
open Go.RowKit Go.Maps

/-- What a map of counts tells at an entry that comes. -/
theorem CntM.entry {L : List Int} {D : DataW Unit} (h3 : ∀ v, hwf v → Maps.has D (.int .i64 v) = decide (v ∈ L) ∧ (v ∈ L → ∀ z, D.atKey (.int .i64 v) z = .lit (.int .i64 (L.count v : Nat)))) {x c : Int} (hx : (Lit.int .i64 x).wf = true)
    (hat : ∀ zd, D.atKey (.int .i64 x) zd = .lit (.int .i64 c)) : x ∈ L ∧ c = (L.count x : Nat) := by
  obtain ⟨q1, q2⟩ := h3 x (hwf_of hx)
  by_cases hm : x ∈ L
  · refine ⟨hm, ?_⟩
    have := (hat .nil).symm.trans (q2 hm .nil)
    simpa using this
  · have h1 := hat .nil
    rw [Maps.atKey_of_not_has (by rw [q1]; simp [hm])] at h1
    cases h1

theorem sameKey_int (a b : Int) : (Lit.int .i64 a).sameKey (.int .i64 b) = decide (a = b) := by
  by_cases h : a = b <;> simp [Lit.sameKey, h]

/-- The sum over those numbers that have come. -/
def sumN (f : Int → Int) (left : Lit → Bool) : List Int → Int
  | [] => 0
  | h :: L => (if left (.int .i64 h) then 0 else f h) + sumN f left L
def sumA (f : Int → Int) : List Int → Int
  | [] => 0
  | h :: L => f h + sumA f L
theorem sumN_start {f : Int → Int} {left : Lit → Bool} : ∀ {L : List Int}, (∀ h ∈ L, left (.int .i64 h) = true) → sumN f left L = 0
  | [], _ => rfl
  | h :: L, hl => by
    have := sumN_start (f := f) (L := L) (fun x hx => hl x (List.mem_cons_of_mem _ hx))
    simp [sumN, hl h (List.mem_cons_self ..), this]
theorem sumN_end {f : Int → Int} {left : Lit → Bool} (hl : ∀ kl, left kl = false) : ∀ {L : List Int}, sumN f left L = sumA f L
  | [] => rfl
  | h :: L => by simp [sumN, sumA, hl, sumN_end hl (L := L)]
theorem sumN_step {f : Int → Int} {left : Lit → Bool} {x : Int} (hx : left (.int .i64 x) = true) : ∀ {L : List Int}, sumN f (fun z => left z && !z.sameKey (.int .i64 x)) L = sumN f left L + (L.count x : Nat) * f x
  | [] => by simp [sumN]
  | h :: L => by
    have ih := sumN_step (f := f) hx (L := L)
    simp only [sumN, ih, sameKey_int]
    by_cases e : h = x
    · subst e
      simp [hx, List.count_cons, Int.add_mul]
      omega
    · have e' : ¬ h = x := e
      simp only [e', decide_false, Bool.not_false, Bool.and_true, List.count_cons_of_ne (fun q => e q)]
      omega
theorem sumN_bound {f : Int → Int} {left : Lit → Bool} : ∀ {L : List Int}, (∀ h ∈ L, 0 ≤ f h ∧ f h ≤ 1000) → 0 ≤ sumN f left L ∧ sumN f left L ≤ 1000 * L.length
  | [], _ => by simp [sumN]
  | h :: L, hl => by
    have h1 := sumN_bound (f := f) (left := left) (L := L) (fun x hx => hl x (List.mem_cons_of_mem _ hx))
    have h2 := hl h (List.mem_cons_self ..)
    simp only [sumN, List.length_cons]
    split <;> omega
theorem sumA_append (f : Int → Int) : ∀ (a b : List Int), sumA f (a ++ b) = sumA f a + sumA f b
  | [], b => by simp [sumA]
  | h :: a, b => by simp [sumA, sumA_append f a b]; omega
mutual
theorem sumA_hds (g : Sg) : (t : T) → sumA (wo g) t.hds = wtT g t
  | .node h ts => by simp [T.hds, sumA, wtT, sumA_hdsL g ts]
theorem sumA_hdsL (g : Sg) : (ts : List T) → sumA (wo g) (T.hdsL ts) = wtL g ts
  | [] => rfl
  | t :: ts => by simp [T.hdsL, sumA_append, wtL, sumA_hds g t, sumA_hdsL g ts]
end

/-- Is the head a variable's or a symbol's? -/
def inS (g : Sg) (h : Int) : Prop := h < 0 ∨ h.toNat < g.length
mutual
theorem fits_heads {g : Sg} : (t : T) → fitsT g t = true → bad (T.subs 1 t) = false → ∀ h ∈ t.hds, inS g h
  | .node h ts, hf, hb, x, hx => by
    rcases List.mem_cons.1 hx with rfl | hx
    · by_cases q : x < 0
      · exact .inl q
      · simp only [fitsT, q, decide_false, Bool.false_or, Bool.and_eq_true, armOk] at hf
        obtain ⟨h1, _⟩ := hf
        split at h1
        · rename_i y hy; exact .inr (List.getElem?_eq_some_iff.1 hy).1
        · simp at h1
    · exact fits_headsL ts (fits_args hf hb) x hx
theorem fits_headsL {g : Sg} : (ts : List T) → (∀ t ∈ ts, fitsT g t = true ∧ bad (T.subs 1 t) = false) → ∀ h ∈ T.hdsL ts, inS g h
  | [], _, x, hx => by simp [T.hdsL] at hx
  | t :: ts, h, x, hx => by
    rcases List.mem_append.1 hx with hx | hx
    · exact fits_heads t (h t (List.mem_cons_self ..)).1 (h t (List.mem_cons_self ..)).2 x hx
    · exact fits_headsL ts (fun s hs => h s (List.mem_cons_of_mem _ hs)) x hx
end
theorem wo_bound {g : Sg} (hr : rightG g = true) {h : Int} (hs : inS g h) : 1 ≤ wo g h ∧ wo g h ≤ 1000 := by
  unfold wo
  rcases hs with hs | hs
  · simp [hs]
  · by_cases q : h < 0
    · simp [q]
    · rw [if_neg q, List.getElem?_eq_getElem hs]
      simp only [rightG, Bool.and_eq_true, Bool.not_eq_true', List.any_eq_false] at hr
      have := hr.1.2 g[h.toNat] (List.getElem_mem hs)
      simp only [badSy, Bool.or_eq_true, decide_eq_true_eq, not_or] at this
      dsimp only
      omega

theorem weightOf_any (g : Sg) (h : Int) (hs : inS g h) (n₀ : Nat) (ga : Option Addr) (gc : Nat) (w : World) (hn : n₀ ≤ w.heap.size) (hG : IsSg n₀ w g ga gc) :
    Calls Try.prog 40 #[.slice ga g.length gc, .int .i64 h] w fun e w' => e = .returned (.int .i64 (wo g h)) ∧ w' = w := by
  have hlg : g.length ≤ gc ∧ gc ≤ maxLen := ⟨hG.1, hG.2.1⟩
  unfold maxLen at hlg
  obtain ⟨hl3, hl4⟩ := hlg
  by_cases q : h < 0
  · have HD := Lib.hid (show wo g h = 1 from by unfold wo; rw [if_pos q])
    go_enter Try.func40, Try.ntmps40
    go_wp2
    go_ret
    exact ⟨by rw [HD.out]; rfl, rfl⟩
  · have hk : h.toNat < g.length := by rcases hs with hs | hs; omega; exact hs
    obtain ⟨b, o, x, rfl, hbn, hsx, hxw, hc0, hc1, hc2, hc3⟩ := hG.elem (i := h.toNat) hk
    have HD := Lib.hid (show wo g h = x.wt from by unfold wo; rw [if_neg q, hsx])
    have h0 : 0 ≤ h := by omega
    have h1 : h < (g.length : Int) := by omega
    clear hG hsx hxw
    go_enter Try.func40, Try.ntmps40
    go_wp2
    go_ret
    exact ⟨by rw [HD.out]; rfl, rfl⟩

theorem mul_small (n : Nat) (z : Int) (h1 : n ≤ 400) (h2 : 0 ≤ z) (h3 : z ≤ 1000) : 0 ≤ (n : Int) * z ∧ (n : Int) * z ≤ 400000 := by
  have h0 : (0 : Int) ≤ (n : Int) := Int.natCast_nonneg _
  refine ⟨Int.mul_nonneg h0 h2, ?_⟩
  have q1 : (n : Int) * z ≤ 400 * z := Int.mul_le_mul_of_nonneg_right (by omega) h2
  omega

/-- What Weight returns. -/
def weightV (g : Sg) (t : T) : Value := if errT g t = 0 then .tuple #[.int .i64 (wtT g t), .int .i64 0] else .tuple #[.int .i64 0, .int .i64 (errT g t)]
theorem errT_ok {g : Sg} {t : T} (h : errT g t = 0) : rightG g = true ∧ t.check = 0 ∧ fitsT g t = true ∧ predL g t.args = false := by
  unfold errT at h
  by_cases h1 : rightG g = true
  · rw [if_pos h1] at h
    by_cases h2 : t.check = 0
    · rw [if_pos h2] at h
      by_cases h3 : fitsT g t = true
      · rw [if_pos h3] at h
        by_cases h4 : predL g t.args = true
        · rw [if_pos h4] at h; cases h
        · exact ⟨h1, h2, h3, by simpa using h4⟩
      · rw [if_neg h3] at h; cases h
    · rw [if_neg h2] at h; exact absurd h h2
  · rw [if_neg h1] at h; cases h
theorem grownBy_drew (W : World) (n : Nat) : W.grownBy (W.drewN n) none := ⟨rfl, rfl, rfl, Nat.le_refl _, fun _ _ _ => rfl⟩

set_option maxRecDepth 100000 in
set_option maxHeartbeats 4000000 in
theorem weight_any (g : Sg) (t : T) (hsz : t.size ≤ 1000000000000) (n₀ : Nat) (ga : Option Addr) (gc : Nat) (a : Option Addr) (c : Nat) (w : World) (hn : n₀ ≤ w.heap.size) (hG : IsSg n₀ w g ga gc) (hwf : (Lit.int .i64 t.head).wf = true) (hA : IsArgs n₀ w t.args a c) :
    Calls Try.prog 19 #[.slice ga g.length gc, tm t.head a t.args.length c] w fun e w' => e = .returned (weightV g t) ∧ Below w.heap.size w w' := by
  obtain ⟨W1, hW1⟩ : ∃ W1, w.alloc (tmCells t.head a t.args.length c) = W1 := ⟨_, rfl⟩
  have hF1 : Below w.heap.size w W1 := by rw [← hW1]; exact (Below.refl _ w).alloc (Nat.le_refl _) _
  have HF1 := Lib.hid hF1
  have LT := Lib.hid (show Later (fun X => Vc w.heap.size t.head a t.args.length c X) W1 from by rw [← hW1]; exact later_var w _ _ _ _)
  have CT := Lib.hid (fun (W : World) (hW : Below w.heap.size w W) => sgTerm_any g t hsz n₀ ga gc a c W (Nat.le_trans hn hW.size) (hG.below (hW.mono hn)) hwf (hA.below (hW.mono hn)))
  have CH := Lib.hid (fun (W : World) (hW : Below w.heap.size w W) => heads_any t hsz n₀ a c W (Nat.le_trans hn hW.size) hwf (hA.below (hW.mono hn)))
  have CW := Lib.hid (fun (h : Int) (hs : inS g h) (W : World) (hW : Below w.heap.size w W) => weightOf_any g h hs n₀ ga gc W (Nat.le_trans hn hW.size) (hG.below (hW.mono hn)))
  have hlg : g.length ≤ gc ∧ gc ≤ maxLen := ⟨hG.1, hG.2.1⟩
  unfold maxLen at hlg
  obtain ⟨hv0, hv1⟩ := LT.out.now
  clear hF1 hG hA
  go_enter Try.func19, Try.ntmps19
  go_wp2_with fail
  refine (CT.out _ HF1.out).mono ?_
  rintro e w2 ⟨rfl, hb2⟩
  have hB2 : Below w.heap.size w w2 := HF1.out.trans (hb2.mono HF1.out.size)
  have LT2 := Lib.hid (LT.out.mv hb2)
  have HB2 := Lib.hid hB2
  clear hb2 hB2 LT hW1 hv0 hv1
  by_cases h0 : errT g t = 0
  · have HV := Lib.hid (show weightV g t = .tuple #[.int .i64 (wtT g t), .int .i64 0] from by unfold weightV; rw [if_pos h0])
    obtain ⟨hr, hck, hft, hpr⟩ := errT_ok h0
    have HSZ := Lib.hid (check_ok hck).1
    have HIS := Lib.hid (fits_heads t hft (check_ok hck).2.2)
    have HWO := Lib.hid (fun (h : Int) (hm : h ∈ t.hds) => wo_bound hr (HIS.out h hm))
    rw [h0]
    have hv := LT2.out.now
    obtain ⟨hv0, hv1⟩ := hv
    clear h0 hr hck hft hpr
    go_wp2_with fail
    refine (CH.out _ HB2.out).mono ?_
    rintro e w3 ⟨M, rfl, hM1, hM2, hb3⟩
    have HB3 := Lib.hid (HB2.out.trans (hb3.mono HB2.out.size))
    obtain ⟨D, hown, hD, hwfs⟩ := hM2
    have HD := Lib.hid hD
    have HWF := Lib.hid hwfs
    have hMw : w.heap.size ≤ M := by have := HB2.out.size; omega
    clear hb3 LT2 hv0 hv1 hD hwfs
    go_wp2_with (first | (at_range; refine wpList_range_own _ rfl _ 73 rfl 3 3 keyHd Try.underlying73 _ M _ D rfl hown ?_; intro w4 hrg0 hg0 hs0))
    go_frame
    have hBr : Below w.heap.size w w4 := HB3.out.grown hg0 HB3.out.size (fun k e => by cases e)
    have hall0 : ∀ h ∈ t.hds, Maps.has D (.int .i64 h) = true := fun h hm => by rw [(HD.out h (HWF.out h hm)).1]; simp [hm]
    have HST := Lib.hid (show ∃ (left : Lit → Bool) (cnt : Nat), w4.ranges Try.prog 3 (plainElem Try.prog 3) M w3.heap.size t.hds.length D left cnt ∧ Value.int .i64 0 = .int .i64 (sumN (wo g) left t.hds) ∧ Below w.heap.size w w4 from
      ⟨_, _, hrg0, by rw [sumN_start hall0], hBr⟩)
    have h3w : w.heap.size ≤ w3.heap.size := HB3.out.size
    clear hrg0 hg0 hs0 hBr hall0 hown
    go_loopw [7] (fun sv wr => ∃ (left : Lit → Bool) (cnt : Nat), wr.ranges Try.prog 3 (plainElem Try.prog 3) M w3.heap.size t.hds.length D left cnt ∧ sv = .int .i64 (sumN (wo g) left t.hds) ∧ Below w.heap.size w wr) (fun _ wr => wr.rangeLeft M w3.heap.size)
    case atStart => exact HST.out
    case round =>
      clear HST
      obtain ⟨left, cnt, hrg, rfl, hB⟩ := hrel
      have HB := Lib.hid hB
      clear hB
      go_wp2_with (first | (at_next; refine wpList_next_ranges_ii _ rfl _ rfl 3 3 .i64 .i64 keyHd Try.underlying3 Try.underlying3 M w3.heap.size _ _ _ _ rfl hrg ?_ ?_))
      · intro hc0 hl0
        have HE := Lib.hid (show sumN (wo g) left t.hds = wtT g t from by rw [sumN_end hl0, sumA_hds])
        generalize sumN (wo g) left t.hds = q at *
        go_wp2
        refine bodyPost_ret (v := .tuple #[.int .i64 q, .int .i64 0]) (by simp [results, Try.results19, go_sem]) rfl ?_
        exact ⟨by rw [HV.out, HE.out], HB.out⟩
      · intro x cv w5 cnt1 hwx hwc hlx hat hrg1 hlt hg1 hs1 hen
        have hB5 : Below w.heap.size w w5 := HB.out.grown hg1 HB.out.size (fun j hj => by cases hj; exact h3w)
        obtain ⟨hxm, rfl⟩ := CntM.entry HD.out hwx hat
        have hstep := sumN_step (f := wo g) hlx (L := t.hds)
        have hbd := sumN_bound (f := wo g) (left := left) (L := t.hds) (fun h hm => by have := HWO.out h hm; omega)
        have hcl : t.hds.count x ≤ t.hds.length := List.count_le_length
        have hwo := HWO.out x hxm
        have hln := T.hds_length t
        have hszz := HSZ.out
        have hmul := mul_small (t.hds.count x) (wo g x) (by omega) (by omega) (by omega)
        have HRG := Lib.hid hrg1
        have HR0 := Lib.hid hrg
        have HB5 := Lib.hid hB5
        have hisx := HIS.out x hxm
        have HCW := Lib.hid (CW.out x hisx w5 HB5.out)
        have hs5 : (0 : Int) ≤ sumN (wo g) left t.hds ∧ sumN (wo g) left t.hds ≤ 400000 := by omega
        obtain ⟨q, hq⟩ : ∃ q, sumN (wo g) left t.hds = q := ⟨_, rfl⟩
        obtain ⟨qc, hqc⟩ : ∃ qc, t.hds.count x = qc := ⟨_, rfl⟩
        obtain ⟨qw, hqw⟩ : ∃ qw, wo g x = qw := ⟨_, rfl⟩
        rw [hq, hqc, hqw] at hstep
        rw [hq] at hs5 ⊢
        rw [hqc, hqw] at hmul
        rw [hqc] at hen ⊢
        rw [hqw] at HCW
        have HSTEP := Lib.hid hstep
        clear hrg1 hstep hB5 hat hbd hwx hwc hlx hcl hrg hln hq hqc hqw hwo
        go_wp2_with fail
        refine HCW.out.mono ?_
        rintro e w6 ⟨rfl, rfl⟩
        go_wp2
        go_roundw
        case rel =>
          refine ⟨fun z => left z && !z.sameKey (.int .i64 x), cnt1, HRG.out, ?_, HB5.out⟩
          rw [HSTEP.out]
        case measure => rw [HRG.out.left_eq, HR0.out.left_eq]; exact hlt
  · have HV := Lib.hid (show weightV g t = .tuple #[.int .i64 0, .int .i64 (errT g t)] from by unfold weightV; rw [if_neg h0])
    obtain ⟨k, hk⟩ : ∃ k, errT g t = k := ⟨_, rfl⟩
    have hk0 : (k != 0) = true := by rw [← hk]; simpa using h0
    rw [hk]
    rw [hk] at HV
    clear h0 hk
    go_wp2
    refine bodyPost_ret (v := .tuple #[.int .i64 0, .int .i64 k]) (by simp [results, Try.results19, go_sem]) rfl ?_
    exact ⟨by rw [HV.out], HB2.out⟩

end Go.Proofs.Ytbfanbaijombaaa

/- Weights of parts and of terms put: plain facts. -/
namespace Go.Proofs.Ytbfanbaijombaaa
set_option linter.unusedVariables false
set_option linter.unusedSimpArgs false
open Go.RowKit

theorem check_of {t : T} (h1 : t.size ≤ 400) (h2 : t.depth ≤ 40) (h3 : bad (T.subs 1 t) = false) : t.check = 0 := by
  unfold T.check
  rw [if_neg (by omega), if_neg (by omega), h3]; rfl
theorem depth_mem : ∀ {ts : List T} {s : T}, s ∈ ts → s.depth ≤ T.depths ts
  | t :: ts, s, h => by
    simp only [T.depths]
    rcases List.mem_cons.1 h with rfl | h
    · omega
    · have := depth_mem h; omega
theorem size_mem : ∀ {ts : List T} {s : T}, s ∈ ts → s.size ≤ T.sizes ts
  | t :: ts, s, h => by
    simp only [T.sizes]
    rcases List.mem_cons.1 h with rfl | h
    · omega
    · have := size_mem h; omega
/-- What Term asks of a term, when the signature is right. -/
def OkT (g : Sg) (t : T) : Prop := t.check = 0 ∧ fitsT g t = true ∧ predL g t.args = false
theorem okT_iff {g : Sg} {t : T} (hr : rightG g = true) : errT g t = 0 ↔ OkT g t := by
  constructor
  · intro h; obtain ⟨_, h2, h3, h4⟩ := errT_ok h; exact ⟨h2, h3, h4⟩
  · rintro ⟨h2, h3, h4⟩
    unfold errT
    rw [if_pos hr, if_pos h2, if_pos h3, h4]; rfl
theorem OkT.arg {g : Sg} {t s : T} (h : OkT g t) (hs : s ∈ t.args) : OkT g s := by
  obtain ⟨h1, h2, h3⟩ := h
  obtain ⟨c1, c2, c3⟩ := check_ok h1
  obtain ⟨f1, f2⟩ := fits_args h2 c3 s hs
  refine ⟨check_of (by have := size_mem hs; have := T.size_eq t; omega) (by have := depth_mem hs; have := T.depth_eq t; omega) f2, f1, ?_⟩
  rw [predL_any, List.any_eq_false] at h3
  have := h3 s hs
  rw [predT_eq] at this
  simp only [Bool.or_eq_true, not_or, Bool.not_eq_true] at this
  exact this.2
theorem OkT.heads {g : Sg} {t : T} (h : OkT g t) : ∀ x ∈ t.hds, inS g x := fits_heads t h.2.1 (check_ok h.1).2.2
theorem sumA_nonneg {f : Int → Int} : ∀ {L : List Int}, (∀ h ∈ L, 0 ≤ f h) → 0 ≤ sumA f L
  | [], _ => by simp [sumA]
  | h :: L, hl => by
    have h1 := sumA_nonneg (L := L) (fun x hx => hl x (List.mem_cons_of_mem _ hx))
    have h2 := hl h (List.mem_cons_self ..)
    simp only [sumA]; omega
theorem hds_mem {ts : List T} {s : T} (h : s ∈ ts) : ∀ x ∈ s.hds, x ∈ T.hdsL ts := by
  induction ts with
  | nil => simp at h
  | cons t ts ih =>
    intro x hx
    simp only [T.hdsL, List.mem_append]
    rcases List.mem_cons.1 h with rfl | h
    · exact .inl hx
    · exact .inr (ih h x hx)
theorem wtL_mem {g : Sg} {ts : List T} {s : T} (h : s ∈ ts) (hp : ∀ x ∈ T.hdsL ts, 0 ≤ wo g x) : wtT g s ≤ wtL g ts := by
  induction ts with
  | nil => simp at h
  | cons t ts ih =>
    simp only [wtL]
    have h1 : 0 ≤ wtL g ts := by rw [← sumA_hdsL]; exact sumA_nonneg (fun x hx => hp x (by simp [T.hdsL, hx]))
    have h2 : 0 ≤ wtT g t := by rw [← sumA_hds]; exact sumA_nonneg (fun x hx => hp x (by simp [T.hdsL, hx]))
    rcases List.mem_cons.1 h with rfl | h
    · omega
    · have := ih h (fun x hx => hp x (by simp [T.hdsL, hx])); omega
theorem wt_pos {g : Sg} {t : T} (hr : rightG g = true) (h : OkT g t) : 1 ≤ wtT g t := by
  have hh := h.heads
  rw [wtT_eq]
  have h1 := (wo_bound hr (hh t.head (by rw [T.hds_eq]; simp))).1
  have h2 : 0 ≤ wtL g t.args := by
    rw [← sumA_hdsL]
    exact sumA_nonneg (fun x hx => by have := (wo_bound hr (hh x (by rw [T.hds_eq]; simp [hx]))).1; omega)
  omega
theorem wt_arg {g : Sg} {t s : T} (hr : rightG g = true) (h : OkT g t) (hs : s ∈ t.args) : wtT g s < wtT g t := by
  have hh := h.heads
  rw [wtT_eq g t]
  have h1 := (wo_bound hr (hh t.head (by rw [T.hds_eq]; simp))).1
  have h2 := wtL_mem hs (fun x hx => by have := (wo_bound hr (hh x (by rw [T.hds_eq]; simp [hx]))).1; omega) (g := g)
  omega
/-- A part: right, and lighter. -/
theorem part_ok {g : Sg} (hr : rightG g = true) : ∀ {p : List Int} {t u : T}, OkT g t → t.at p = some u → OkT g u ∧ wtT g u ≤ wtT g t ∧ (p ≠ [] → wtT g u < wtT g t)
  | [], t, u, h, hp => by
    simp [T.at] at hp; subst hp
    exact ⟨h, Int.le_refl _, fun e => absurd rfl e⟩
  | i :: p, t, u, h, hp => by
    simp only [T.at] at hp
    split at hp
    · cases hp
    · cases hx : t.args[i.toNat]? with
      | none => rw [hx] at hp; cases hp
      | some x =>
        rw [hx] at hp
        have hm := List.mem_of_getElem? hx
        obtain ⟨h1, h2, _⟩ := part_ok hr (h.arg hm) hp
        have h3 := wt_arg hr h hm
        exact ⟨h1, by omega, fun _ => by omega⟩

end Go.Proofs.Ytbfanbaijombaaa
