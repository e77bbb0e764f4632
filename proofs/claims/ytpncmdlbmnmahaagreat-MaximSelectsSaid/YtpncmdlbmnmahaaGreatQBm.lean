/- QBm: joined of Kmu, St1, Kb7, Lp, Kc, AC0, Lm. -/
import Derived.Test.YtpncmdlbmnmahaaGreatQBj
import Derived.Test.YtpncmdlbmnmahaaGreatQBl
import Derived.Test.YtpncmdlbmnmahaaGreatQBc
import Derived.Test.YtpncmdlbmnmahaaGreatQBf
import Derived.Test.YtpncmdlbmnmahaaGreatQBd
import Derived.Test.YtpncmdlbmnmahaaGreatSam0
import Derived.Deep.RegionHeld3
/- Contracts of kbo's exceed and Multi. -/
namespace Go.Proofs.YtpncmdlbmnmahaaGreat
set_option linter.unusedVariables false
set_option linter.unusedSimpArgs false
open Go.RowKit
/-- Terms that compare takes. -/
def Ok4 (g : Sg) (t : T) : Prop := fitsT g t = true ∧ bad (T.subs 1 t) = false ∧ t.size ≤ 200000
def moreB (g : Sg) (t u : T) : Bool := decide (stand g t u = 1)
theorem moreB_gt (g : Sg) (t u : T) : moreB g t u = gtK g t u := by
  unfold moreB
  rw [Bool.eq_iff_iff, decide_eq_true_eq, stand_more]
set_option maxRecDepth 100000 in
theorem exceed1_any (g : Sg) (hr : rightG g = true) (t u : T) (ht : Ok4 g t) (hu : Ok4 g u) (n₀ : Nat) (ga : Option Addr) (gc : Nat) (pa : Option Addr) (ca : Nat) (pb : Option Addr) (cb Bg Bl : Nat) (W : World) (hn : n₀ ≤ W.heap.size) (hG : IsSg n₀ W g ga gc) (hwt : (Lit.int .i64 t.head).wf = true) (hwu : (Lit.int .i64 u.head).wf = true)
    (hA : IsArgs n₀ W t.args pa ca) (hB : IsArgs n₀ W u.args pb cb) (hg : Bg < W.heap.size) (hl : Bl < W.heap.size) (hgc : W.cell? ⟨Bg, 0, none⟩ = some (.slice ga g.length gc)) (hl0 : W.cell? ⟨Bl, 0, none⟩ = some (.int .i64 u.head)) (hl1 : W.cell? ⟨Bl, 1, none⟩ = some (.slice pb u.args.length cb)) :
    Calls Tryz.prog 76 #[tm t.head pa t.args.length ca, .pointer (some ⟨Bg, 0, none⟩), .pointer (some ⟨Bl, 0, none⟩)] W fun e w' => e = .returned (.bool (moreB g t u)) ∧ Below W.heap.size W w' := by
  obtain ⟨W1, hW1⟩ : ∃ W1, W.alloc (tmCells t.head pa t.args.length ca) = W1 := ⟨_, rfl⟩
  have hF1 : Below W.heap.size W W1 := by rw [← hW1]; exact (Below.refl _ W).alloc (Nat.le_refl _) _
  obtain ⟨hv0, hv1⟩ := (show Later (fun X => Vc W.heap.size t.head pa t.args.length ca X) W1 from by rw [← hW1]; exact later_var W _ _ _ _).now
  have g0 : W1.cell? ⟨Bg, 0, none⟩ = some (.slice ga g.length gc) := (hF1.cell (p := ⟨Bg, 0, none⟩) hg).trans hgc
  have l0 : W1.cell? ⟨Bl, 0, none⟩ = some (.int .i64 u.head) := (hF1.cell (p := ⟨Bl, 0, none⟩) hl).trans hl0
  have l1 : W1.cell? ⟨Bl, 1, none⟩ = some (.slice pb u.args.length cb) := (hF1.cell (p := ⟨Bl, 1, none⟩) hl).trans hl1
  have HC := Lib.hid (kcmp_any g hr t u ht.1 ht.2.1 hu.1 hu.2.1 (by have := ht.2.2; have := hu.2.2; omega) n₀ ga gc pa ca pb cb W1 (Nat.le_trans hn hF1.size) (hG.below (hF1.mono hn)) hwt hwu (hA.below (hF1.mono hn)) (hB.below (hF1.mono hn)))
  have HF1 := Lib.hid hF1
  clear hG hA hB hF1 hgc hl0 hl1
  go_enter Tryz.func76, Tryz.ntmps76
  go_wp2_with fail
  refine HC.out.mono ?_
  rintro e w2 ⟨rfl, hb2⟩
  have HB := Lib.hid (HF1.out.trans (hb2.mono HF1.out.size))
  clear hb2
  obtain ⟨r, hr⟩ : ∃ r, stand g t u = r := ⟨_, rfl⟩
  have HM := Lib.hid (show moreB g t u = decide (r = 1) from by unfold moreB; rw [hr])
  rw [hr]
  clear hr
  by_cases h : r = 1
  · subst h
    go_wp2
    go_ret
    exact ⟨by rw [HM.out]; rfl, HB.out⟩
  · have h' : (r == 1) = false := by simpa using h
    go_wp2
    go_ret
    exact ⟨by rw [HM.out]; simp [h], HB.out⟩
def exB (g : Sg) (high low : List T) : Bool := low.all fun u => high.any fun t => moreB g t u
def ExI (g : Sg) (high low : List T) (W1 : World) (i : Value) (wr : World) : Prop := ∃ k : Nat, k ≤ low.length ∧ i = .int .i64 (k : Nat) ∧ exB g high low = exB g high (low.drop k) ∧ Below W1.heap.size W1 wr
set_option maxRecDepth 100000 in
set_option maxHeartbeats 4000000 in
theorem exceed_any (g : Sg) (hr : rightG g = true) (high low : List T) (hh : ∀ t ∈ high, Ok4 g t) (hlo : ∀ t ∈ low, Ok4 g t) (n₀ : Nat) (ga : Option Addr) (gc : Nat) (pa : Option Addr) (ca : Nat) (pb : Option Addr) (cb : Nat) (w : World) (hn : n₀ ≤ w.heap.size) (hG : IsSg n₀ w g ga gc) (hA : IsArgs n₀ w high pa ca) (hB : IsArgs n₀ w low pb cb) :
    Calls Tryz.prog 59 #[.slice ga g.length gc, .slice pa high.length ca, .slice pb low.length cb] w fun e w' => e = .returned (.bool (exB g high low)) ∧ Below w.heap.size w w' := by
  have hlc : low.length ≤ cb ∧ cb ≤ maxLen := ⟨hB.1, hB.2.1⟩
  unfold maxLen at hlc
  obtain ⟨hl1, hl2⟩ := hlc
  obtain ⟨W1, hW1⟩ : ∃ W1, w.alloc (.cells #[.slice ga g.length gc] 22) = W1 := ⟨_, rfl⟩
  have hs1 : W1.heap.size = w.heap.size + 1 := by rw [← hW1]; simp
  have hF1 : Below w.heap.size w W1 := by rw [← hW1]; exact (Below.refl _ w).alloc (Nat.le_refl _) _
  have hg1 : W1.cell? ⟨w.heap.size, 0, none⟩ = some (.slice ga g.length gc) := by rw [← hW1]; simp [go_sem]
  have HA := Lib.hid (hA.below (hF1.mono hn))
  have HB := Lib.hid (hB.below (hF1.mono hn))
  have HG := Lib.hid (hG.below (hF1.mono hn))
  have HF1 := Lib.hid hF1
  have HHL := Lib.hid (And.intro hh hlo)
  have HR := Lib.hid hr
  have HN := Lib.hid (show n₀ ≤ W1.heap.size from by omega)
  have HS1 := Lib.hid hs1
  have eg := enters_of Tryz.func76 (by kernel_rfl) rfl
  clear hA hB hG hF1 hh hlo hr
  go_enter Tryz.func59, Tryz.ntmps59
  go_wp2
  clear hW1
  go_loopw [11] (fun i wr => ExI g high low W1 i wr) (fun i _ => low.length - (intOf i).toNat)
  case atStart => exact ⟨0, Nat.zero_le _, rfl, by simp, Below.refl _ _⟩
  case round =>
    obtain ⟨k, hk, rfl, hE, hBk⟩ := hrel
    have HE := Lib.hid hE
    have HBk := Lib.hid hBk
    have hbz := hBk.size
    clear hE hBk
    by_cases hlt : k < low.length
    · obtain ⟨b, o, s, a', c', rfl, hbn, hs, hswf, hc1, hc2, hA'⟩ := (HB.out.below (HBk.out.mono HN.out)).elem (i := k) hlt
      have hk0 : (0 : Int) ≤ (k : Int) := Int.natCast_nonneg _
      have hk1 : (k : Int) < (low.length : Int) := by omega
      have hnn := HN.out
      have hbw : b < wr.heap.size := by omega
      obtain ⟨W2, hW2⟩ : ∃ W2, wr.alloc (tmCells s.head a' s.args.length c') = W2 := ⟨_, rfl⟩
      have hs2 : W2.heap.size = wr.heap.size + 1 := by rw [← hW2]; simp
      have hF2 : Below wr.heap.size wr W2 := by rw [← hW2]; exact (Below.refl _ wr).alloc (Nat.le_refl _) _
      have L2 := (show Later (fun X => Vc wr.heap.size s.head a' s.args.length c' X) W2 from by rw [← hW2]; exact later_var wr _ _ _ _)
      have hB2 : Below W1.heap.size W1 W2 := HBk.out.trans (hF2.mono hbz)
      have hmem := List.mem_of_getElem? hs
      have HC := Lib.hid (containsT_any (fun t => moreB g t s) 76 #[.pointer (some ⟨w.heap.size, 0, none⟩), .pointer (some ⟨wr.heap.size, 0, none⟩)] eg high n₀ pa ca W2 (by omega) (HA.out.below (hB2.mono hnn))
        (fun X t a2 c2 ht hX htw htA => by
          obtain ⟨q0, q1⟩ := L2.mv hX |>.now
          have hBX : Below W1.heap.size W1 X := hB2.trans (hX.mono hB2.size)
          have hz := HS1.out
          have hXz := hX.size
          exact exceed1_any g HR.out t s (HHL.out.1 t ht) (HHL.out.2 s hmem) n₀ ga gc a2 c2 a' c' w.heap.size wr.heap.size X (by omega) (HG.out.below (hBX.mono hnn)) htw hswf htA (hA'.below ((hF2.trans (hX.mono (by omega))).mono (by omega))) (by omega) (by omega)
            ((hBX.cell (p := ⟨w.heap.size, 0, none⟩) (by show w.heap.size < W1.heap.size; omega)).trans hg1) q0 q1))
      have hst : exB g high (low.drop k) = ((high.any fun t => moreB g t s) && exB g high (low.drop (k + 1))) := by
        obtain ⟨hkl, hke⟩ := List.getElem?_eq_some_iff.1 hs
        rw [List.drop_eq_getElem_cons hkl, hke]; rfl
      have HST := Lib.hid hst
      have HB2 := Lib.hid hB2
      clear hs hswf hA' hst hF2 L2 hB2 hmem eg
      go_wp2_with fail
      refine HC.out.mono ?_
      rintro e w3 ⟨rfl, hb3⟩
      have HB3 := Lib.hid (HB2.out.trans (hb3.mono HB2.out.size))
      clear hb3
      obtain ⟨r, hr⟩ : ∃ r, (high.any fun t => moreB g t s) = r := ⟨_, rfl⟩
      rw [hr] at HST ⊢
      clear hr
      cases r with
      | true =>
        have HN2 := Lib.hid (show exB g high low = exB g high (low.drop (k + 1)) from by rw [HE.out, HST.out]; rfl)
        go_wp2
        go_roundw
        case rel => exact ⟨k + 1, by omega, by go_num, HN2.out, HB3.out⟩
        case measure => simp [intOf]; omega
      | false =>
        have HN2 := Lib.hid (show exB g high low = false from by rw [HE.out, HST.out]; rfl)
        go_wp2
        go_ret
        exact ⟨by rw [HN2.out]; rfl, HF1.out.trans (HB3.out.mono HF1.out.size)⟩
    · obtain rfl : k = low.length := by omega
      have HN2 := Lib.hid (show exB g high low = true from by rw [HE.out, List.drop_of_length_le (Nat.le_refl _)]; rfl)
      go_wp2
      go_ret
      exact ⟨by rw [HN2.out]; rfl, HF1.out.trans (HBk.out.mono HF1.out.size)⟩
/-! ### Multi -/
def mulV (g : Sg) (a b : List T) : Value := if errF g a = 0 then (if errF g b = 0 then .tuple #[.int .i64 (rowsT g a b), .int .i64 0] else .tuple #[.int .i64 0, .int .i64 (errF g b)]) else .tuple #[.int .i64 0, .int .i64 (errF g a)]
theorem errF_mem {g : Sg} : ∀ {ts : List T}, errF g ts = 0 → ∀ t ∈ ts, errT g t = 0
  | [], _, t, h => by simp at h
  | s :: ts, h, t, ht => by
    unfold errF at h
    split at h
    · rename_i q; exact absurd h q
    · rename_i q
      rcases List.mem_cons.1 ht with rfl | ht
      · simpa using q
      · exact errF_mem h t ht
theorem ok4_of {g : Sg} {t : T} (h : errT g t = 0) : Ok4 g t := by
  obtain ⟨_, r2, r3, _⟩ := errT_ok h
  obtain ⟨k1, _, k3⟩ := check_ok r2
  exact ⟨r3, k3, by omega⟩
theorem rows_of {g : Sg} {a b us vs : List T} (hu : ∀ z, us.count z = sub a b z) (hv : ∀ z, vs.count z = sub b a z) :
    rowsT g a b = if us = [] ∧ vs = [] then 0 else if exB g us vs then 1 else if exB g vs us then -1 else 2 := by
  have m1 : ∀ z, z ∈ us ↔ z ∈ diffM a b := fun z => by rw [diffM_mem, ← List.count_pos_iff, hu z]; unfold sub; omega
  have m2 : ∀ z, z ∈ vs ↔ z ∈ diffM b a := fun z => by rw [diffM_mem, ← List.count_pos_iff, hv z]; unfold sub; omega
  have n1 : us = [] ↔ diffM a b = [] := by simp only [List.eq_nil_iff_forall_not_mem, m1]
  have n2 : vs = [] ↔ diffM b a = [] := by simp only [List.eq_nil_iff_forall_not_mem, m2]
  have ov : ∀ x y : List T, ¬ (x = [] ∧ y = []) → exB g x y = overT g x y := fun x y hne => by
    unfold exB overT
    have e : (fun u => x.any fun t => moreB g t u) = fun u => x.any fun t => gtK g t u := by funext u; congr 1; funext t; exact moreB_gt g t u
    rw [e]
    by_cases hx : x = []
    · subst hx
      cases y with
      | nil => exact absurd ⟨rfl, rfl⟩ hne
      | cons u y => simp
    · simp [hx]
  unfold rowsT
  rw [← overT_congr m1 m2, ← overT_congr m2 m1]
  by_cases h : us = [] ∧ vs = []
  · rw [if_pos h, if_pos (show diffM a b = [] ∧ diffM b a = [] from ⟨n1.1 h.1, n2.1 h.2⟩)]
  · rw [if_neg h, if_neg (show ¬ (diffM a b = [] ∧ diffM b a = []) from fun e => h ⟨n1.2 e.1, n2.2 e.2⟩), ov us vs h, ov vs us (fun e => h ⟨e.2, e.1⟩)]
set_option maxRecDepth 100000 in
set_option maxHeartbeats 4000000 in
theorem multi_any (g : Sg) (a b : List T) (hla : a.length ≤ 1000000) (hlb : b.length ≤ 1000000) (hsa : ∀ t ∈ a, t.size ≤ 1000000000000) (hsb : ∀ t ∈ b, t.size ≤ 1000000000000) (n₀ : Nat) (ga : Option Addr) (gc : Nat) (pa : Option Addr) (ca : Nat) (pb : Option Addr) (cb : Nat) (w : World) (hn : n₀ ≤ w.heap.size) (hG : IsSg n₀ w g ga gc) (hA : IsArgs n₀ w a pa ca) (hB : IsArgs n₀ w b pb cb) :
    Calls Tryz.prog 36 #[.slice ga g.length gc, .slice pa a.length ca, .slice pb b.length cb] w fun e w' => e = .returned (mulV g a b) ∧ Below w.heap.size w w' := by
  have H1 := Lib.hid (firstError_any g a hsa n₀ ga gc pa ca w hn hG hA)
  have H2 := Lib.hid (fun (W : World) (hW : Below w.heap.size w W) => firstError_any g b hsb n₀ ga gc pb cb W (Nat.le_trans hn hW.size) (hG.below (hW.mono hn)) (hB.below (hW.mono hn)))
  have H3 := Lib.hid (fun (W : World) (hW : Below w.heap.size w W) => withoutCommon_any a b hla hlb hsa hsb n₀ pa ca pb cb W (Nat.le_trans hn hW.size) (hA.below (hW.mono hn)) (hB.below (hW.mono hn)))
  have HG := Lib.hid (fun (W : World) (hW : Below w.heap.size w W) => (hG.below (hW.mono hn)).mono (Nat.le_trans hn hW.size))
  clear hG hA hB hsa hsb
  go_enter Tryz.func36, Tryz.ntmps36
  go_wp2_with fail
  refine H1.out.mono ?_
  rintro e w1 ⟨rfl, hb1⟩
  have HB1 := Lib.hid hb1
  clear hb1
  by_cases h1 : errF g a = 0
  · have HE1 := Lib.hid h1
    rw [h1]
    clear h1
    go_wp2_with fail
    refine (H2.out _ HB1.out).mono ?_
    rintro e w2 ⟨rfl, hb2⟩
    have HB2 := Lib.hid (HB1.out.trans (hb2.mono HB1.out.size))
    clear hb2
    by_cases h2 : errF g b = 0
    · have HE2 := Lib.hid h2
      rw [h2]
      clear h2
      go_wp2_with fail
      refine (H3.out _ HB2.out).mono ?_
      rintro e w3 ⟨us, vs, a1, c1, a2, c2, rfl, hu, hv, hA1, hA2, hl1, hl2, hb3⟩
      have hb3' : Below w.heap.size w w3 := HB2.out.trans (hb3.mono HB2.out.size)
      have HV := Lib.hid (show mulV g a b = .tuple #[.int .i64 (rowsT g a b), .int .i64 0] from by unfold mulV; rw [if_pos HE1.out, if_pos HE2.out])
      have HR := Lib.hid (rows_of (g := g) hu hv)
      have hou : ∀ t ∈ us, Ok4 g t ∧ rightG g = true := fun t ht => by
        have hm : t ∈ a := List.count_pos_iff.1 (by have := List.count_pos_iff.2 ht; rw [hu t] at this; unfold sub at this; omega)
        have := errF_mem HE1.out t hm
        exact ⟨ok4_of this, (errT_ok this).1⟩
      have hov : ∀ t ∈ vs, Ok4 g t ∧ rightG g = true := fun t ht => by
        have hm : t ∈ b := List.count_pos_iff.1 (by have := List.count_pos_iff.2 ht; rw [hv t] at this; unfold sub at this; omega)
        have := errF_mem HE2.out t hm
        exact ⟨ok4_of this, (errT_ok this).1⟩
      have HX1 := Lib.hid (fun (hr : rightG g = true) => exceed_any g hr us vs (fun t ht => (hou t ht).1) (fun t ht => (hov t ht).1) w3.heap.size ga gc a1 c1 a2 c2 w3 (Nat.le_refl _) ((HG.out w3 hb3').mono (Nat.le_refl _)) hA1 hA2)
      have HX2 := Lib.hid (fun (hr : rightG g = true) (W : World) (hW : Below w3.heap.size w3 W) => exceed_any g hr vs us (fun t ht => (hov t ht).1) (fun t ht => (hou t ht).1) w3.heap.size ga gc a2 c2 a1 c1 W hW.size ((HG.out w3 hb3').below hW) (hA2.below hW) (hA1.below hW))
      have HOV := Lib.hid (And.intro hou hov)
      have HB3 := Lib.hid hb3'
      clear hu hv hA1 hA2 hl1 hl2 hb3 hb3' hou hov
      by_cases h0 : us = [] ∧ vs = []
      · have HZ := Lib.hid (show rowsT g a b = 0 from by rw [HR.out, if_pos h0])
        obtain ⟨rfl, rfl⟩ := h0
        go_wp2
        refine bodyPost_ret (v := .tuple #[.int .i64 0, .int .i64 0]) (by simp [results, Tryz.results36, go_sem]) rfl ?_
        exact ⟨by rw [HV.out, HZ.out], HB3.out⟩
      · have HR2 := Lib.hid (show rowsT g a b = if exB g us vs then 1 else if exB g vs us then -1 else 2 from by rw [HR.out, if_neg h0])
        have hrg : rightG g = true := by
          cases hue : us with
          | cons u us' => exact (HOV.out.1 u (by rw [hue]; simp)).2
          | nil =>
            cases hve : vs with
            | cons v vs' => exact (HOV.out.2 v (by rw [hve]; simp)).2
            | nil => exact absurd ⟨hue, hve⟩ h0
        have HC1 := Lib.hid (HX1.out hrg)
        have HC2 := Lib.hid (HX2.out hrg)
        have hlen : (us.length : Int) ≠ 0 ∨ ((us.length : Int) = 0 ∧ (vs.length : Int) ≠ 0) := by
          by_cases q : us.length = 0
          · refine .inr ⟨by omega, fun e => h0 ⟨List.eq_nil_of_length_eq_zero q, List.eq_nil_of_length_eq_zero (by omega)⟩⟩
          · exact .inl (by omega)
        clear h0 hrg
        obtain ⟨n1, hn1⟩ : ∃ n1, us.length = n1 := ⟨_, rfl⟩
        obtain ⟨n2, hn2⟩ : ∃ n2, vs.length = n2 := ⟨_, rfl⟩
        rw [hn1, hn2] at hlen HC1 HC2 ⊢
        clear hn1 hn2
        have fin : ∀ (W : World) (hW : Below w.heap.size w W) (r : Int), rowsT g a b = r → (Ending.returned (.tuple #[.int .i64 r, .int .i64 0]) = .returned (mulV g a b) ∧ Below w.heap.size w W) := fun W hW r hr => ⟨by rw [HV.out, hr], hW⟩
        have FIN := Lib.hid fin
        clear fin
        rcases hlen with hq | ⟨hq1, hq2⟩
        · have hq' : ((n1 : Int) == 0) = false := by simpa using hq
          clear hq
          go_wp2_with fail
          refine HC1.out.mono ?_
          rintro e w4 ⟨rfl, hb4⟩
          have HC2b := Lib.hid (HC2.out w4 hb4)
          have HB4 := Lib.hid (HB3.out.trans (hb4.mono HB3.out.size))
          clear hb4
          cases hx1 : exB g us vs with
          | true =>
            have HZ := Lib.hid (show rowsT g a b = 1 from by rw [HR2.out, hx1]; rfl)
            clear hx1
            go_wp2
            refine bodyPost_ret (v := .tuple #[.int .i64 1, .int .i64 0]) (by simp [results, Tryz.results36, go_sem]) rfl ?_
            exact FIN.out _ HB4.out 1 HZ.out
          | false =>
            have HX := Lib.hid hx1
            clear hx1
            go_wp2_with fail
            refine HC2b.out.mono ?_
            rintro e w5 ⟨rfl, hb5⟩
            have HB5 := Lib.hid (HB4.out.trans (hb5.mono HB4.out.size))
            clear hb5
            cases hx2 : exB g vs us with
            | true =>
              have HZ := Lib.hid (show rowsT g a b = -1 from by rw [HR2.out, HX.out, hx2]; rfl)
              clear hx2
              go_wp2
              refine bodyPost_ret (v := .tuple #[.int .i64 (-1), .int .i64 0]) (by simp [results, Tryz.results36, go_sem]) rfl ?_
              exact FIN.out _ HB5.out (-1) HZ.out
            | false =>
              have HZ := Lib.hid (show rowsT g a b = 2 from by rw [HR2.out, HX.out, hx2]; rfl)
              clear hx2
              go_wp2
              refine bodyPost_ret (v := .tuple #[.int .i64 2, .int .i64 0]) (by simp [results, Tryz.results36, go_sem]) rfl ?_
              exact FIN.out _ HB5.out 2 HZ.out
        · have hq' : ((n2 : Int) == 0) = false := by simpa using hq2
          have hq0 : n1 = 0 := by omega
          subst hq0
          clear hq2 hq1
          go_wp2_with fail
          refine HC1.out.mono ?_
          rintro e w4 ⟨rfl, hb4⟩
          have HC2b := Lib.hid (HC2.out w4 hb4)
          have HB4 := Lib.hid (HB3.out.trans (hb4.mono HB3.out.size))
          clear hb4
          cases hx1 : exB g us vs with
          | true =>
            have HZ := Lib.hid (show rowsT g a b = 1 from by rw [HR2.out, hx1]; rfl)
            clear hx1
            go_wp2
            refine bodyPost_ret (v := .tuple #[.int .i64 1, .int .i64 0]) (by simp [results, Tryz.results36, go_sem]) rfl ?_
            exact FIN.out _ HB4.out 1 HZ.out
          | false =>
            have HX := Lib.hid hx1
            clear hx1
            go_wp2_with fail
            refine HC2b.out.mono ?_
            rintro e w5 ⟨rfl, hb5⟩
            have HB5 := Lib.hid (HB4.out.trans (hb5.mono HB4.out.size))
            clear hb5
            cases hx2 : exB g vs us with
            | true =>
              have HZ := Lib.hid (show rowsT g a b = -1 from by rw [HR2.out, HX.out, hx2]; rfl)
              clear hx2
              go_wp2
              refine bodyPost_ret (v := .tuple #[.int .i64 (-1), .int .i64 0]) (by simp [results, Tryz.results36, go_sem]) rfl ?_
              exact FIN.out _ HB5.out (-1) HZ.out
            | false =>
              have HZ := Lib.hid (show rowsT g a b = 2 from by rw [HR2.out, HX.out, hx2]; rfl)
              clear hx2
              go_wp2
              refine bodyPost_ret (v := .tuple #[.int .i64 2, .int .i64 0]) (by simp [results, Tryz.results36, go_sem]) rfl ?_
              exact FIN.out _ HB5.out 2 HZ.out
    · have HV := Lib.hid (show mulV g a b = .tuple #[.int .i64 0, .int .i64 (errF g b)] from by unfold mulV; rw [if_pos HE1.out, if_neg h2])
      obtain ⟨r, hr⟩ : ∃ r, errF g b = r := ⟨_, rfl⟩
      rw [hr] at HV h2 ⊢
      have h3 : (r != 0) = true := by simpa using h2
      clear h2 hr
      go_wp2
      refine bodyPost_ret (v := .tuple #[.int .i64 0, .int .i64 r]) (by simp [results, Tryz.results36, go_sem]) rfl ?_
      exact ⟨by rw [HV.out], HB2.out⟩
  · have HV := Lib.hid (show mulV g a b = .tuple #[.int .i64 0, .int .i64 (errF g a)] from by unfold mulV; rw [if_neg h1])
    obtain ⟨r, hr⟩ : ∃ r, errF g a = r := ⟨_, rfl⟩
    rw [hr] at HV h1 ⊢
    have h3 : (r != 0) = true := by simpa using h1
    clear h1 hr
    go_wp2
    refine bodyPost_ret (v := .tuple #[.int .i64 0, .int .i64 r]) (by simp [results, Tryz.results36, go_sem]) rfl ?_
    exact ⟨by rw [HV.out], HB1.out⟩
end Go.Proofs.YtpncmdlbmnmahaaGreat

/- St0: split off Stv: what names neither Of nor the reference's Of. -/
/- What stays when terms are put for variables: variables of terms, in plain words. And the contract of the reference's In. -/
namespace Go.Proofs.YtpncmdlbmnmahaaGreat
set_option linter.unusedVariables false
set_option linter.unusedSimpArgs false
open Go.RowKit
/-- The heads of all parts of a term. -/
def T.heads (t : T) : List Int := (T.subs 1 t).map (fun x => x.2.head)
mutual
theorem heads_level (l l' : Nat) : (t : T) → (T.subs l t).map (fun x => x.2.head) = (T.subs l' t).map (fun x => x.2.head)
  | .node h ts => by simp only [T.subs, List.map_cons]; rw [headss_level (l + 1) (l' + 1) ts]
theorem headss_level (l l' : Nat) : (ts : List T) → (T.subss l ts).map (fun x => x.2.head) = (T.subss l' ts).map (fun x => x.2.head)
  | [] => rfl
  | t :: ts => by simp only [T.subss, List.map_append]; rw [heads_level l l' t, headss_level l l' ts]
end
theorem T.heads_eq (t : T) : t.heads = t.head :: (t.args.map T.heads).flatten := by
  unfold T.heads
  rw [T.subs_eq, List.map_cons]
  congr 1
  have : ∀ ts : List T, (T.subss 2 ts).map (fun x => x.2.head) = (ts.map (fun t => (T.subs 1 t).map (fun x => x.2.head))).flatten := by
    intro ts
    induction ts with
    | nil => rfl
    | cons t ts ih => simp only [T.subss, List.map_append, List.map_cons, List.flatten_cons]; rw [ih, heads_level 2 1 t]
  exact this t.args
theorem mem_varsOf (pre : List (Nat × T)) (v : Int) : v ∈ varsOf pre ↔ ∃ x ∈ pre, x.2.head < 0 ∧ v = -1 - x.2.head := by
  suffices h : ∀ (pre : List (Nat × T)) (acc : List Int), v ∈ pre.foldl varStep acc ↔ v ∈ acc ∨ ∃ x ∈ pre, x.2.head < 0 ∧ v = -1 - x.2.head by
    have := h pre []
    simpa [varsOf] using this
  intro pre
  induction pre with
  | nil => intro acc; simp
  | cons x pre ih =>
    intro acc
    rw [List.foldl_cons, ih]
    have : v ∈ varStep acc x ↔ v ∈ acc ∨ (x.2.head < 0 ∧ v = -1 - x.2.head) := by
      unfold varStep
      split
      · rename_i h0
        split
        · rename_i hc
          constructor
          · exact .inl
          · rintro (h | ⟨_, rfl⟩)
            · exact h
            · simpa using hc
        · simp [h0]
      · rename_i h0
        simp [h0]
    rw [this]
    simp only [List.mem_cons, exists_eq_or_imp]
    constructor
    · rintro ((h | h) | h)
      · exact .inl h
      · exact .inr (.inl h)
      · exact .inr (.inr h)
    · rintro (h | h | h)
      · exact .inl (.inl h)
      · exact .inl (.inr h)
      · exact .inr h
theorem mem_vars (t : T) (v : Int) : v ∈ varsOf (T.subs 1 t) ↔ ∃ h ∈ t.heads, h < 0 ∧ v = -1 - h := by
  rw [mem_varsOf]
  unfold T.heads
  simp only [List.mem_map]
  constructor
  · rintro ⟨x, hx, h1, h2⟩; exact ⟨_, ⟨x, hx, rfl⟩, h1, h2⟩
  · rintro ⟨_, ⟨x, hx, rfl⟩, h1, h2⟩; exact ⟨x, hx, h1, h2⟩
/-- In a good term variables stand without arguments. -/
theorem good_leaf {t : T} (h : bad (T.subs 1 t) = false) (hn : t.head < 0) : t.args = [] := by
  have := good_head h
  simp only [okB, if_pos hn, Bool.and_eq_true, decide_eq_true_iff] at this
  exact List.eq_nil_of_length_eq_zero this.1
theorem sub_self (f : Int → T) : ∀ (N : Nat) (t : T), t.size ≤ N → bad (T.subs 1 t) = false → (∀ g ∈ t.heads, g < 0 → f (-1 - g) = vt (-1 - g)) → t.sub f = t := by
  intro N
  induction N with
  | zero => intro t ht; have := T.size_pos t; omega
  | succ N ih =>
    intro t ht hg hf
    by_cases q : t.head < 0
    · rw [T.sub_neg q, hf t.head (by rw [T.heads_eq]; simp) q]
      have ha := good_leaf hg q
      conv => rhs; rw [← T.eta t, ha]
      simp only [vt]
      congr 1
      omega
    · rw [T.sub_pos q]
      conv => rhs; rw [← T.eta t]
      congr 1
      conv => rhs; rw [← List.map_id t.args]
      apply List.map_congr_left
      intro s hs
      obtain ⟨i, hi⟩ := List.getElem?_of_mem hs
      exact ih s (by have := T.size_lt_of_mem hi; have := T.size_eq t; omega) (good_arg hg hi) (fun g hg1 hg2 => hf g (by rw [T.heads_eq]; exact List.mem_cons_of_mem _ (List.mem_flatten.2 ⟨_, List.mem_map.2 ⟨s, hs, rfl⟩, hg1⟩)) hg2)
theorem sub_vt {t : T} (hg : bad (T.subs 1 t) = false) : t.sub (ofS []) = t := sub_self _ t.size t (Nat.le_refl _) hg (fun g _ _ => rfl)
end Go.Proofs.YtpncmdlbmnmahaaGreat

/- Plain facts for the laws of layer 8. -/
namespace Go.Proofs.YtpncmdlbmnmahaaGreat
set_option linter.unusedVariables false
set_option linter.unusedSimpArgs false
open Go.RowKit
def muR (g : Sg) (a b : List T) : Int := if errF g a = 0 then (if errF g b = 0 then rowsT g a b else 0) else 0
def muE (g : Sg) (a b : List T) : Int := if errF g a = 0 then errF g b else errF g a
theorem mulV_eq (g : Sg) (a b : List T) : mulV g a b = .tuple #[.int .i64 (muR g a b), .int .i64 (muE g a b)] := by
  unfold mulV muR muE
  by_cases h : errF g a = 0
  · rw [if_pos h, if_pos h, if_pos h]
    by_cases h' : errF g b = 0
    · rw [if_pos h', if_pos h', h']
    · rw [if_neg h', if_neg h']
  · rw [if_neg h, if_neg h, if_neg h]
theorem errT_right {g : Sg} {t : T} (h : errT g t = 0) : rightG g = true := (errT_ok h).1
theorem errT_bad {g : Sg} {t : T} (h : errT g t = 0) : bad (T.subs 1 t) = false := (check_ok (errT_ok h).2.1).2.2
theorem errT_okT {g : Sg} {t : T} (h : errT g t = 0) : OkT g t := (okT_iff (errT_right h)).1 h
theorem heads_hds (t : T) : t.heads = t.hds := by
  refine hds_unique (F := T.heads) (fun t => ?_) t.size t (Nat.le_refl _)
  rw [T.heads_eq]
theorem isVars_vars (t : T) : IsVars (varsOf (T.subs 1 t)) t := fun v => by rw [mem_vars, heads_hds]
theorem errF_cons (g : Sg) (t : T) (ts : List T) : errF g (t :: ts) = if errT g t ≠ 0 then errT g t else errF g ts := rfl
theorem errF_one {g : Sg} {t : T} : errF g [t] = errT g t := by
  rw [errF_cons]
  by_cases h : errT g t = 0
  · rw [if_neg (fun e => e h), h]; rfl
  · rw [if_pos h]
theorem errF_app (g : Sg) : ∀ (a b : List T), errF g (a ++ b) = if errF g a = 0 then errF g b else errF g a
  | [], b => rfl
  | t :: a, b => by
    rw [List.cons_append, errF_cons, errF_cons]
    by_cases h : errT g t = 0
    · have h' : ¬ errT g t ≠ 0 := fun e => e h
      simp only [if_neg h', errF_app g a b]
    · simp only [if_pos h, if_neg h]
theorem errF_pair {g : Sg} {a b : T} (ha : errT g a = 0) (hb : errT g b = 0) : errF g [a, b] = 0 := by
  have : errF g ([a] ++ [b]) = 0 := by rw [errF_app, errF_one, errF_one, if_pos ha, hb]
  exact this
end Go.Proofs.YtpncmdlbmnmahaaGreat

/- Literals: what the document says of them; plain facts. -/
namespace Go.Proofs.YtpncmdlbmnmahaaGreat
set_option linter.unusedVariables false
set_option linter.unusedSimpArgs false
open Go.RowKit
/-- Do the sides of a literal go together? -/
def sortE (g : Sg) (l r : T) : Int := if predS g l.head then (if r.head = 0 then 0 else 10) else if predS g r.head then 10 else 0
/-- The error of a literal. -/
def errL (g : Sg) (l r : T) : Int := if errT g l ≠ 0 then errT g l else if errT g r ≠ 0 then errT g r else sortE g l r
theorem errL_ok {g : Sg} {l r : T} (h : errL g l r = 0) : errT g l = 0 ∧ errT g r = 0 ∧ sortE g l r = 0 := by
  unfold errL at h
  by_cases q : errT g l = 0
  · rw [if_neg (fun e => e q)] at h
    by_cases q' : errT g r = 0
    · rw [if_neg (fun e => e q')] at h
      exact ⟨q, q', h⟩
    · rw [if_pos q'] at h; exact absurd h q'
  · rw [if_pos q] at h; exact absurd h q
theorem errL_left {g : Sg} {l r : T} (h : errT g l ≠ 0) : errL g l r = errT g l := by unfold errL; rw [if_pos h]
theorem errL_right {g : Sg} {l r : T} (h1 : errT g l = 0) (h2 : errT g r ≠ 0) : errL g l r = errT g r := by
  unfold errL; rw [if_neg (fun e => e h1), if_pos h2]
theorem errL_sort {g : Sg} {l r : T} (h1 : errT g l = 0) (h2 : errT g r = 0) : errL g l r = sortE g l r := by
  unfold errL; rw [if_neg (fun e => e h1), if_neg (fun e => e h2)]
theorem errF_row {g : Sg} {n : Bool} {l r : T} (h1 : errT g l = 0) (h2 : errT g r = 0) : errF g (rowL n l r) = 0 := by
  cases n
  · exact errF_pair h1 h2
  · show errF g ([l, l] ++ [r, r]) = 0
    rw [errF_app, errF_pair h1 h1, if_pos rfl, errF_pair h2 h2]
/-! ### An order -/
/-! ### Oriented -/
end Go.Proofs.YtpncmdlbmnmahaaGreat

/- Clauses: what the document says of them; plain facts. -/
namespace Go.Proofs.YtpncmdlbmnmahaaGreat
set_option linter.unusedVariables false
set_option linter.unusedSimpArgs false
open Go.RowKit
/-- All sides. -/
def sidesC (c : List Lt3) : List T := (c.map fun x => [x.l, x.r]).flatten
/-- The error of the first literal that has one. -/
def errs (g : Sg) : List Lt3 → Int
  | [] => 0
  | x :: c => if errL g x.l x.r ≠ 0 then errL g x.l x.r else errs g c
def errC (g : Sg) (c : List Lt3) : Int := if rightG g then (if 32 < c.length then 2 else errs g c) else 1
theorem errs_ok {g : Sg} : ∀ {c : List Lt3}, errs g c = 0 ↔ ∀ x ∈ c, errL g x.l x.r = 0
  | [] => by simp [errs]
  | x :: c => by
    rw [errs]
    by_cases h : errL g x.l x.r = 0
    · rw [if_neg (fun e => e h), errs_ok]; simp [h]
    · rw [if_pos h]; simp [h]
theorem errC_ok {g : Sg} {c : List Lt3} (h : errC g c = 0) : rightG g = true ∧ c.length ≤ 32 ∧ ∀ x ∈ c, errL g x.l x.r = 0 := by
  unfold errC at h
  by_cases h1 : rightG g = true
  · rw [if_pos h1] at h
    by_cases h2 : 32 < c.length
    · rw [if_pos h2] at h; cases h
    · rw [if_neg h2] at h
      exact ⟨h1, by omega, errs_ok.1 h⟩
  · rw [if_neg h1] at h; cases h
theorem errC_of {g : Sg} {c : List Lt3} (h1 : rightG g = true) (h2 : c.length ≤ 32) (h3 : ∀ x ∈ c, errL g x.l x.r = 0) : errC g c = 0 := by
  unfold errC
  rw [if_pos h1, if_neg (by omega)]
  exact errs_ok.2 h3
/-! ### The same literals -/
/-! ### Which one is greater -/
def standL (g : Sg) (a b : Lt3) : Int := rowsT g a.row b.row
theorem standL_more {g : Sg} {a b : Lt3} : standL g a b = 1 ↔ GtLit g a b := rowsT_more_iff
/-! ### What is not used -/
end Go.Proofs.YtpncmdlbmnmahaaGreat

/- A block of cells, in every later world: what walks of examples keep. -/
namespace Go.Proofs.YtpncmdlbmnmahaaGreat
set_option linter.unusedVariables false
set_option linter.unusedSimpArgs false
open Go.RowKit
/-- A block of cells, in every later world. -/
def Cs (b : Nat) (cs : List Value) (X : World) : Prop := b < X.heap.size ∧ ∀ i u, cs[i]? = some u → X.cell? ⟨b, i, none⟩ = some u
theorem later_cs (W : World) (cs : Array Value) (ty : TypeId) : Later (Cs W.heap.size cs.toList) (W.alloc (.cells cs ty)) := fun X hX =>
  ⟨by have := hX.size; simp at this; omega, fun i u hu => (hX.cell (p := ⟨W.heap.size, i, none⟩) (by simp)).trans (by
    have h := MapKept.heap_alloc W (.cells cs ty)
    simp only [World.cell?, h.1]
    simpa using hu)⟩
theorem Later.pushC {F : World → Prop} {W W' : World} (k : Later F W) (hb : Below W.heap.size W W') (cs : Array Value) (ty : TypeId) : Later (fun X => Cs W'.heap.size cs.toList X ∧ F X) (W'.alloc (.cells cs ty)) :=
  (k.mv (hb.alloc hb.size _)).and (later_cs W' cs ty)
theorem Later.step {F : World → Prop} {W W' : World} (k : Later F W) (hb : Below W.heap.size W W') : Later F W' := k.mv hb
theorem bl_call {w X u : World} (hX : Below w.heap.size w X) (hu : Below X.heap.size X u) : Below w.heap.size w u := hX.trans (hu.mono hX.size)
end Go.Proofs.YtpncmdlbmnmahaaGreat

/- Literals in memory. -/
namespace Go.Proofs.YtpncmdlbmnmahaaGreat
set_option linter.unusedVariables false
set_option linter.unusedSimpArgs false
open Go.RowKit
/-- A literal as a value: which terms, and where their arguments lie. -/
structure LV where
  n : Bool
  l : T
  r : T
  pa : Option Addr
  ca : Nat
  pb : Option Addr
  cb : Nat
abbrev LV.v (x : LV) : Value := .agg #[.bool x.n, .int .i64 x.l.head, .slice x.pa x.l.args.length x.ca, .int .i64 x.r.head, .slice x.pb x.r.args.length x.cb]
abbrev LV.obj (x : LV) : Obj := .cells #[.bool x.n, .int .i64 x.l.head, .slice x.pa x.l.args.length x.ca, .int .i64 x.r.head, .slice x.pb x.r.args.length x.cb] 44
/-- A variable of type Lit: its five cells. -/
def Lc (b : Nat) (x : LV) (X : World) : Prop :=
  X.cell? ⟨b, 0, none⟩ = some (.bool x.n) ∧ X.cell? ⟨b, 1, none⟩ = some (.int .i64 x.l.head) ∧ X.cell? ⟨b, 2, none⟩ = some (.slice x.pa x.l.args.length x.ca) ∧ X.cell? ⟨b, 3, none⟩ = some (.int .i64 x.r.head) ∧ X.cell? ⟨b, 4, none⟩ = some (.slice x.pb x.r.args.length x.cb)
theorem later_lc (W : World) (x : LV) : Later (Lc W.heap.size x) (W.alloc x.obj) := fun X hX =>
  ⟨(hX.cell (p := ⟨W.heap.size, 0, none⟩) (by simp)).trans (by simp [go_sem]), (hX.cell (p := ⟨W.heap.size, 1, none⟩) (by simp)).trans (by simp [go_sem]), (hX.cell (p := ⟨W.heap.size, 2, none⟩) (by simp)).trans (by simp [go_sem]),
    (hX.cell (p := ⟨W.heap.size, 3, none⟩) (by simp)).trans (by simp [go_sem]), (hX.cell (p := ⟨W.heap.size, 4, none⟩) (by simp)).trans (by simp [go_sem])⟩
/-- A new variable of type Lit, laid in a later world. -/
theorem Later.pushL {F : World → Prop} {W W' : World} (k : Later F W) (hb : Below W.heap.size W W') (x : LV) : Later (fun X => Lc W'.heap.size x X ∧ F X) (W'.alloc x.obj) :=
  (k.mv (hb.alloc hb.size _)).and (later_lc W' x)
/-- The sides of a literal in memory. -/
structure IsLv (n₀ : Nat) (w : World) (x : LV) : Prop where
  lw : (Lit.int .i64 x.l.head).wf = true
  rw : (Lit.int .i64 x.r.head).wf = true
  la : IsArgs n₀ w x.l.args x.pa x.ca
  ra : IsArgs n₀ w x.r.args x.pb x.cb
theorem IsLv.below {n₀ : Nat} {w w' : World} {x : LV} (h : IsLv n₀ w x) (hb : Below n₀ w w') : IsLv n₀ w' x := ⟨h.lw, h.rw, h.la.below hb, h.ra.below hb⟩
theorem IsLv.mono {n₀ n₁ : Nat} {w : World} {x : LV} (h : IsLv n₀ w x) (hn : n₀ ≤ n₁) : IsLv n₁ w x := ⟨h.lw, h.rw, h.la.mono hn, h.ra.mono hn⟩
theorem later_lv {W : World} {x : LV} (h : IsLv W.heap.size W x) : Later (fun X => IsLv X.heap.size X x) W := fun X hX => (h.below hX).mono hX.size
/-- Are both sides of a size that can be walked? -/
def LV.sz (x : LV) : Prop := x.l.size ≤ 1000000000000 ∧ x.r.size ≤ 1000000000000
/-- The literal with its sides changed. -/
def LV.turn (x : LV) : LV := ⟨x.n, x.r, x.l, x.pb, x.cb, x.pa, x.ca⟩
theorem IsLv.turn {n₀ : Nat} {w : World} {x : LV} (h : IsLv n₀ w x) : IsLv n₀ w x.turn := ⟨h.rw, h.lw, h.ra, h.la⟩
end Go.Proofs.YtpncmdlbmnmahaaGreat
