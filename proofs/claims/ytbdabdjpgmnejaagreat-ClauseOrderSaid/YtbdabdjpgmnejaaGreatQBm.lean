/- QBm: joined of Kmu, Mul, Kb5, Rv0, Sb0. -/
import Derived.Test.YtbdabdjpgmnejaaGreatQBj
import Derived.Test.YtbdabdjpgmnejaaGreatQBl
import Derived.Lib.Hide
import Derived.Test.YtbdabdjpgmnejaaGreatQBi
import Derived.Test.YtbdabdjpgmnejaaGreatQBb
import Derived.Test.YtbdabdjpgmnejaaGreatQBd
import Derived.Test.YtbdabdjpgmnejaaGreatQBf
/- Contracts of kbo's exceed and Multi. -/
namespace Go.Proofs.YtbdabdjpgmnejaaGreat
set_option linter.unusedVariables false
set_option linter.unusedSimpArgs false
open Go.RowKit

/-- Terms that compare takes. -/
def Ok4 (g : Sg) (t : T) : Prop := fitsT g t = true ∧ bad (T.subs 1 t) = false ∧ t.size ≤ 200000
def moreB (g : Sg) (t u : T) : Bool := decide (stand g t u = 1)
theorem moreB_gt (g : Sg) (t u : T) : moreB g t u = gtK g t u := by
  unfold moreB
  rw [Bool.eq_iff_iff, decide_eq_true_eq, stand_more]

set_option maxRecDepth 100000 in
theorem exceed1_any (g : Sg) (hr : rightG g = true) (t u : T) (ht : Ok4 g t) (hu : Ok4 g u) (n₀ : Nat) (ga : Option Addr) (gc : Nat) (pa : Option Addr) (ca : Nat) (pb : Option Addr) (cb Bg Bl : Nat) (W : World) (hn : n₀ ≤ W.heap.size) (hG : IsSg n₀ W g ga gc) (hwt : (Lit.int .i64 t.head).wf = true) (hwu : (Lit.int .i64 u.head).wf = true)
    (hA : IsArgs n₀ W t.args pa ca) (hB : IsArgs n₀ W u.args pb cb) (hg : Bg < W.heap.size) (hl : Bl < W.heap.size) (hgc : W.cell? ⟨Bg, 0, none⟩ = some (.slice ga g.length gc)) (hl0 : W.cell? ⟨Bl, 0, none⟩ = some (.int .i64 u.head)) (hl1 : W.cell? ⟨Bl, 1, none⟩ = some (.slice pb u.args.length cb)) :
    Calls Tryz.prog 126 #[tm t.head pa t.args.length ca, .pointer (some ⟨Bg, 0, none⟩), .pointer (some ⟨Bl, 0, none⟩)] W fun e w' => e = .returned (.bool (moreB g t u)) ∧ Below W.heap.size W w' := by
  obtain ⟨W1, hW1⟩ : ∃ W1, W.alloc (tmCells t.head pa t.args.length ca) = W1 := ⟨_, rfl⟩
  have hF1 : Below W.heap.size W W1 := by rw [← hW1]; exact (Below.refl _ W).alloc (Nat.le_refl _) _
  obtain ⟨hv0, hv1⟩ := (show Later (fun X => Vc W.heap.size t.head pa t.args.length ca X) W1 from by rw [← hW1]; exact later_var W _ _ _ _).now
  have g0 : W1.cell? ⟨Bg, 0, none⟩ = some (.slice ga g.length gc) := (hF1.cell (p := ⟨Bg, 0, none⟩) hg).trans hgc
  have l0 : W1.cell? ⟨Bl, 0, none⟩ = some (.int .i64 u.head) := (hF1.cell (p := ⟨Bl, 0, none⟩) hl).trans hl0
  have l1 : W1.cell? ⟨Bl, 1, none⟩ = some (.slice pb u.args.length cb) := (hF1.cell (p := ⟨Bl, 1, none⟩) hl).trans hl1
  have HC := Lib.hid (kcmp_any g hr t u ht.1 ht.2.1 hu.1 hu.2.1 (by have := ht.2.2; have := hu.2.2; omega) n₀ ga gc pa ca pb cb W1 (Nat.le_trans hn hF1.size) (hG.below (hF1.mono hn)) hwt hwu (hA.below (hF1.mono hn)) (hB.below (hF1.mono hn)))
  have HF1 := Lib.hid hF1
  clear hG hA hB hF1 hgc hl0 hl1
  go_enter Tryz.func126, Tryz.ntmps126
  go_wp2_with fail
  refine HC.out.mono ?_
  rintro e w2 ⟨rfl, hb2⟩
  have HB := Lib.hid (HF1.out.trans (hb2.mono HF1.out.size))
  clear hb2
  obtain ⟨r, hr⟩ : ∃ r, stand g t u = r := ⟨_, rfl⟩
  have HM := Lib.hid (show moreB g t u = decide (r = 1) from by unfold moreB; rw [hr])
  rw [hr]
  clear hr
  by_cases h : r = 1
  · subst h
    go_wp2
    go_ret
    exact ⟨by rw [HM.out]; rfl, HB.out⟩
  · have h' : (r == 1) = false := by simpa using h
    go_wp2
    go_ret
    exact ⟨by rw [HM.out]; simp [h], HB.out⟩

def exB (g : Sg) (high low : List T) : Bool := low.all fun u => high.any fun t => moreB g t u
def ExI (g : Sg) (high low : List T) (W1 : World) (i : Value) (wr : World) : Prop := ∃ k : Nat, k ≤ low.length ∧ i = .int .i64 (k : Nat) ∧ exB g high low = exB g high (low.drop k) ∧ Below W1.heap.size W1 wr

set_option maxRecDepth 100000 in
set_option maxHeartbeats 4000000 in
theorem exceed_any (g : Sg) (hr : rightG g = true) (high low : List T) (hh : ∀ t ∈ high, Ok4 g t) (hlo : ∀ t ∈ low, Ok4 g t) (n₀ : Nat) (ga : Option Addr) (gc : Nat) (pa : Option Addr) (ca : Nat) (pb : Option Addr) (cb : Nat) (w : World) (hn : n₀ ≤ w.heap.size) (hG : IsSg n₀ w g ga gc) (hA : IsArgs n₀ w high pa ca) (hB : IsArgs n₀ w low pb cb) :
    Calls Tryz.prog 100 #[.slice ga g.length gc, .slice pa high.length ca, .slice pb low.length cb] w fun e w' => e = .returned (.bool (exB g high low)) ∧ Below w.heap.size w w' := by
  have hlc : low.length ≤ cb ∧ cb ≤ maxLen := ⟨hB.1, hB.2.1⟩
  unfold maxLen at hlc
  obtain ⟨hl1, hl2⟩ := hlc
  obtain ⟨W1, hW1⟩ : ∃ W1, w.alloc (.cells #[.slice ga g.length gc] 22) = W1 := ⟨_, rfl⟩
  have hs1 : W1.heap.size = w.heap.size + 1 := by rw [← hW1]; simp
  have hF1 : Below w.heap.size w W1 := by rw [← hW1]; exact (Below.refl _ w).alloc (Nat.le_refl _) _
  have hg1 : W1.cell? ⟨w.heap.size, 0, none⟩ = some (.slice ga g.length gc) := by rw [← hW1]; simp [go_sem]
  have HA := Lib.hid (hA.below (hF1.mono hn))
  have HB := Lib.hid (hB.below (hF1.mono hn))
  have HG := Lib.hid (hG.below (hF1.mono hn))
  have HF1 := Lib.hid hF1
  have HHL := Lib.hid (And.intro hh hlo)
  have HR := Lib.hid hr
  have HN := Lib.hid (show n₀ ≤ W1.heap.size from by omega)
  have HS1 := Lib.hid hs1
  have eg := enters_of Tryz.func126 (by kernel_rfl) rfl
  clear hA hB hG hF1 hh hlo hr
  go_enter Tryz.func100, Tryz.ntmps100
  go_wp2
  clear hW1
  go_loopw [11] (fun i wr => ExI g high low W1 i wr) (fun i _ => low.length - (intOf i).toNat)
  case atStart => exact ⟨0, Nat.zero_le _, rfl, by simp, Below.refl _ _⟩
  case round =>
    obtain ⟨k, hk, rfl, hE, hBk⟩ := hrel
    have HE := Lib.hid hE
    have HBk := Lib.hid hBk
    have hbz := hBk.size
    clear hE hBk
    by_cases hlt : k < low.length
    · obtain ⟨b, o, s, a', c', rfl, hbn, hs, hswf, hc1, hc2, hA'⟩ := (HB.out.below (HBk.out.mono HN.out)).elem (i := k) hlt
      have hk0 : (0 : Int) ≤ (k : Int) := Int.natCast_nonneg _
      have hk1 : (k : Int) < (low.length : Int) := by omega
      have hnn := HN.out
      have hbw : b < wr.heap.size := by omega
      obtain ⟨W2, hW2⟩ : ∃ W2, wr.alloc (tmCells s.head a' s.args.length c') = W2 := ⟨_, rfl⟩
      have hs2 : W2.heap.size = wr.heap.size + 1 := by rw [← hW2]; simp
      have hF2 : Below wr.heap.size wr W2 := by rw [← hW2]; exact (Below.refl _ wr).alloc (Nat.le_refl _) _
      have L2 := (show Later (fun X => Vc wr.heap.size s.head a' s.args.length c' X) W2 from by rw [← hW2]; exact later_var wr _ _ _ _)
      have hB2 : Below W1.heap.size W1 W2 := HBk.out.trans (hF2.mono hbz)
      have hmem := List.mem_of_getElem? hs
      have HC := Lib.hid (containsT_any (fun t => moreB g t s) 126 #[.pointer (some ⟨w.heap.size, 0, none⟩), .pointer (some ⟨wr.heap.size, 0, none⟩)] eg high n₀ pa ca W2 (by omega) (HA.out.below (hB2.mono hnn))
        (fun X t a2 c2 ht hX htw htA => by
          obtain ⟨q0, q1⟩ := L2.mv hX |>.now
          have hBX : Below W1.heap.size W1 X := hB2.trans (hX.mono hB2.size)
          have hz := HS1.out
          have hXz := hX.size
          exact exceed1_any g HR.out t s (HHL.out.1 t ht) (HHL.out.2 s hmem) n₀ ga gc a2 c2 a' c' w.heap.size wr.heap.size X (by omega) (HG.out.below (hBX.mono hnn)) htw hswf htA (hA'.below ((hF2.trans (hX.mono (by omega))).mono (by omega))) (by omega) (by omega)
            ((hBX.cell (p := ⟨w.heap.size, 0, none⟩) (by show w.heap.size < W1.heap.size; omega)).trans hg1) q0 q1))
      have hst : exB g high (low.drop k) = ((high.any fun t => moreB g t s) && exB g high (low.drop (k + 1))) := by
        obtain ⟨hkl, hke⟩ := List.getElem?_eq_some_iff.1 hs
        rw [List.drop_eq_getElem_cons hkl, hke]; rfl
      have HST := Lib.hid hst
      have HB2 := Lib.hid hB2
      clear hs hswf hA' hst hF2 L2 hB2 hmem eg
      go_wp2_with fail
      refine HC.out.mono ?_
      rintro e w3 ⟨rfl, hb3⟩
      have HB3 := Lib.hid (HB2.out.trans (hb3.mono HB2.out.size))
      clear hb3
      obtain ⟨r, hr⟩ : ∃ r, (high.any fun t => moreB g t s) = r := ⟨_, rfl⟩
      rw [hr] at HST ⊢
      clear hr
      cases r with
      | true =>
        have HN2 := Lib.hid (show exB g high low = exB g high (low.drop (k + 1)) from by rw [HE.out, HST.out]; rfl)
        go_wp2
        go_roundw
        case rel => exact ⟨k + 1, by omega, by go_num, HN2.out, HB3.out⟩
        case measure => simp [intOf]; omega
      | false =>
        have HN2 := Lib.hid (show exB g high low = false from by rw [HE.out, HST.out]; rfl)
        go_wp2
        go_ret
        exact ⟨by rw [HN2.out]; rfl, HF1.out.trans (HB3.out.mono HF1.out.size)⟩
    · obtain rfl : k = low.length := by omega
      have HN2 := Lib.hid (show exB g high low = true from by rw [HE.out, List.drop_of_length_le (Nat.le_refl _)]; rfl)
      go_wp2
      go_ret
      exact ⟨by rw [HN2.out]; rfl, HF1.out.trans (HBk.out.mono HF1.out.size)⟩

/-! ### Multi -/
def mulV (g : Sg) (a b : List T) : Value := if errF g a = 0 then (if errF g b = 0 then .tuple #[.int .i64 (rowsT g a b), .int .i64 0] else .tuple #[.int .i64 0, .int .i64 (errF g b)]) else .tuple #[.int .i64 0, .int .i64 (errF g a)]
theorem errF_mem {g : Sg} : ∀ {ts : List T}, errF g ts = 0 → ∀ t ∈ ts, errT g t = 0
  | [], _, t, h => by simp at h
  | s :: ts, h, t, ht => by
    unfold errF at h
    split at h
    · rename_i q; exact absurd h q
    · rename_i q
      rcases List.mem_cons.1 ht with rfl | ht
      · simpa using q
      · exact errF_mem h t ht
theorem ok4_of {g : Sg} {t : T} (h : errT g t = 0) : Ok4 g t := by
  obtain ⟨_, r2, r3, _⟩ := errT_ok h
  obtain ⟨k1, _, k3⟩ := check_ok r2
  exact ⟨r3, k3, by omega⟩
theorem rows_of {g : Sg} {a b us vs : List T} (hu : ∀ z, us.count z = sub a b z) (hv : ∀ z, vs.count z = sub b a z) :
    rowsT g a b = if us = [] ∧ vs = [] then 0 else if exB g us vs then 1 else if exB g vs us then -1 else 2 := by
  have m1 : ∀ z, z ∈ us ↔ z ∈ diffM a b := fun z => by rw [diffM_mem, ← List.count_pos_iff, hu z]; unfold sub; omega
  have m2 : ∀ z, z ∈ vs ↔ z ∈ diffM b a := fun z => by rw [diffM_mem, ← List.count_pos_iff, hv z]; unfold sub; omega
  have n1 : us = [] ↔ diffM a b = [] := by simp only [List.eq_nil_iff_forall_not_mem, m1]
  have n2 : vs = [] ↔ diffM b a = [] := by simp only [List.eq_nil_iff_forall_not_mem, m2]
  have ov : ∀ x y : List T, ¬ (x = [] ∧ y = []) → exB g x y = overT g x y := fun x y hne => by
    unfold exB overT
    have e : (fun u => x.any fun t => moreB g t u) = fun u => x.any fun t => gtK g t u := by funext u; congr 1; funext t; exact moreB_gt g t u
    rw [e]
    by_cases hx : x = []
    · subst hx
      cases y with
      | nil => exact absurd ⟨rfl, rfl⟩ hne
      | cons u y => simp
    · simp [hx]
  unfold rowsT
  rw [← overT_congr m1 m2, ← overT_congr m2 m1]
  by_cases h : us = [] ∧ vs = []
  · rw [if_pos h, if_pos (show diffM a b = [] ∧ diffM b a = [] from ⟨n1.1 h.1, n2.1 h.2⟩)]
  · rw [if_neg h, if_neg (show ¬ (diffM a b = [] ∧ diffM b a = []) from fun e => h ⟨n1.2 e.1, n2.2 e.2⟩), ov us vs h, ov vs us (fun e => h ⟨e.2, e.1⟩)]

set_option maxRecDepth 100000 in
set_option maxHeartbeats 4000000 in
theorem multi_any (g : Sg) (a b : List T) (hla : a.length ≤ 1000000) (hlb : b.length ≤ 1000000) (hsa : ∀ t ∈ a, t.size ≤ 1000000000000) (hsb : ∀ t ∈ b, t.size ≤ 1000000000000) (n₀ : Nat) (ga : Option Addr) (gc : Nat) (pa : Option Addr) (ca : Nat) (pb : Option Addr) (cb : Nat) (w : World) (hn : n₀ ≤ w.heap.size) (hG : IsSg n₀ w g ga gc) (hA : IsArgs n₀ w a pa ca) (hB : IsArgs n₀ w b pb cb) :
    Calls Tryz.prog 55 #[.slice ga g.length gc, .slice pa a.length ca, .slice pb b.length cb] w fun e w' => e = .returned (mulV g a b) ∧ Below w.heap.size w w' := by
  have H1 := Lib.hid (firstError_any g a hsa n₀ ga gc pa ca w hn hG hA)
  have H2 := Lib.hid (fun (W : World) (hW : Below w.heap.size w W) => firstError_any g b hsb n₀ ga gc pb cb W (Nat.le_trans hn hW.size) (hG.below (hW.mono hn)) (hB.below (hW.mono hn)))
  have H3 := Lib.hid (fun (W : World) (hW : Below w.heap.size w W) => withoutCommon_any a b hla hlb hsa hsb n₀ pa ca pb cb W (Nat.le_trans hn hW.size) (hA.below (hW.mono hn)) (hB.below (hW.mono hn)))
  have HG := Lib.hid (fun (W : World) (hW : Below w.heap.size w W) => (hG.below (hW.mono hn)).mono (Nat.le_trans hn hW.size))
  clear hG hA hB hsa hsb
  go_enter Tryz.func55, Tryz.ntmps55
  go_wp2_with fail
  refine H1.out.mono ?_
  rintro e w1 ⟨rfl, hb1⟩
  have HB1 := Lib.hid hb1
  clear hb1
  by_cases h1 : errF g a = 0
  · have HE1 := Lib.hid h1
    rw [h1]
    clear h1
    go_wp2_with fail
    refine (H2.out _ HB1.out).mono ?_
    rintro e w2 ⟨rfl, hb2⟩
    have HB2 := Lib.hid (HB1.out.trans (hb2.mono HB1.out.size))
    clear hb2
    by_cases h2 : errF g b = 0
    · have HE2 := Lib.hid h2
      rw [h2]
      clear h2
      go_wp2_with fail
      refine (H3.out _ HB2.out).mono ?_
      rintro e w3 ⟨us, vs, a1, c1, a2, c2, rfl, hu, hv, hA1, hA2, hl1, hl2, hb3⟩
      have hb3' : Below w.heap.size w w3 := HB2.out.trans (hb3.mono HB2.out.size)
      have HV := Lib.hid (show mulV g a b = .tuple #[.int .i64 (rowsT g a b), .int .i64 0] from by unfold mulV; rw [if_pos HE1.out, if_pos HE2.out])
      have HR := Lib.hid (rows_of (g := g) hu hv)
      have hou : ∀ t ∈ us, Ok4 g t ∧ rightG g = true := fun t ht => by
        have hm : t ∈ a := List.count_pos_iff.1 (by have := List.count_pos_iff.2 ht; rw [hu t] at this; unfold sub at this; omega)
        have := errF_mem HE1.out t hm
        exact ⟨ok4_of this, (errT_ok this).1⟩
      have hov : ∀ t ∈ vs, Ok4 g t ∧ rightG g = true := fun t ht => by
        have hm : t ∈ b := List.count_pos_iff.1 (by have := List.count_pos_iff.2 ht; rw [hv t] at this; unfold sub at this; omega)
        have := errF_mem HE2.out t hm
        exact ⟨ok4_of this, (errT_ok this).1⟩
      have HX1 := Lib.hid (fun (hr : rightG g = true) => exceed_any g hr us vs (fun t ht => (hou t ht).1) (fun t ht => (hov t ht).1) w3.heap.size ga gc a1 c1 a2 c2 w3 (Nat.le_refl _) ((HG.out w3 hb3').mono (Nat.le_refl _)) hA1 hA2)
      have HX2 := Lib.hid (fun (hr : rightG g = true) (W : World) (hW : Below w3.heap.size w3 W) => exceed_any g hr vs us (fun t ht => (hov t ht).1) (fun t ht => (hou t ht).1) w3.heap.size ga gc a2 c2 a1 c1 W hW.size ((HG.out w3 hb3').below hW) (hA2.below hW) (hA1.below hW))
      have HOV := Lib.hid (And.intro hou hov)
      have HB3 := Lib.hid hb3'
      clear hu hv hA1 hA2 hl1 hl2 hb3 hb3' hou hov
      by_cases h0 : us = [] ∧ vs = []
      · have HZ := Lib.hid (show rowsT g a b = 0 from by rw [HR.out, if_pos h0])
        obtain ⟨rfl, rfl⟩ := h0
        go_wp2
        refine bodyPost_ret (v := .tuple #[.int .i64 0, .int .i64 0]) (by simp [results, Tryz.results55, go_sem]) rfl ?_
        exact ⟨by rw [HV.out, HZ.out], HB3.out⟩
      · have HR2 := Lib.hid (show rowsT g a b = if exB g us vs then 1 else if exB g vs us then -1 else 2 from by rw [HR.out, if_neg h0])
        have hrg : rightG g = true := by
          cases hue : us with
          | cons u us' => exact (HOV.out.1 u (by rw [hue]; simp)).2
          | nil =>
            cases hve : vs with
            | cons v vs' => exact (HOV.out.2 v (by rw [hve]; simp)).2
            | nil => exact absurd ⟨hue, hve⟩ h0
        have HC1 := Lib.hid (HX1.out hrg)
        have HC2 := Lib.hid (HX2.out hrg)
        have hlen : (us.length : Int) ≠ 0 ∨ ((us.length : Int) = 0 ∧ (vs.length : Int) ≠ 0) := by
          by_cases q : us.length = 0
          · refine .inr ⟨by omega, fun e => h0 ⟨List.eq_nil_of_length_eq_zero q, List.eq_nil_of_length_eq_zero (by omega)⟩⟩
          · exact .inl (by omega)
        clear h0 hrg
        obtain ⟨n1, hn1⟩ : ∃ n1, us.length = n1 := ⟨_, rfl⟩
        obtain ⟨n2, hn2⟩ : ∃ n2, vs.length = n2 := ⟨_, rfl⟩
        rw [hn1, hn2] at hlen HC1 HC2 ⊢
        clear hn1 hn2
        have fin : ∀ (W : World) (hW : Below w.heap.size w W) (r : Int), rowsT g a b = r → (Ending.returned (.tuple #[.int .i64 r, .int .i64 0]) = .returned (mulV g a b) ∧ Below w.heap.size w W) := fun W hW r hr => ⟨by rw [HV.out, hr], hW⟩
        have FIN := Lib.hid fin
        clear fin
        rcases hlen with hq | ⟨hq1, hq2⟩
        · have hq' : ((n1 : Int) == 0) = false := by simpa using hq
          clear hq
          go_wp2_with fail
          refine HC1.out.mono ?_
          rintro e w4 ⟨rfl, hb4⟩
          have HC2b := Lib.hid (HC2.out w4 hb4)
          have HB4 := Lib.hid (HB3.out.trans (hb4.mono HB3.out.size))
          clear hb4
          cases hx1 : exB g us vs with
          | true =>
            have HZ := Lib.hid (show rowsT g a b = 1 from by rw [HR2.out, hx1]; rfl)
            clear hx1
            go_wp2
            refine bodyPost_ret (v := .tuple #[.int .i64 1, .int .i64 0]) (by simp [results, Tryz.results55, go_sem]) rfl ?_
            exact FIN.out _ HB4.out 1 HZ.out
          | false =>
            have HX := Lib.hid hx1
            clear hx1
            go_wp2_with fail
            refine HC2b.out.mono ?_
            rintro e w5 ⟨rfl, hb5⟩
            have HB5 := Lib.hid (HB4.out.trans (hb5.mono HB4.out.size))
            clear hb5
            cases hx2 : exB g vs us with
            | true =>
              have HZ := Lib.hid (show rowsT g a b = -1 from by rw [HR2.out, HX.out, hx2]; rfl)
              clear hx2
              go_wp2
              refine bodyPost_ret (v := .tuple #[.int .i64 (-1), .int .i64 0]) (by simp [results, Tryz.results55, go_sem]) rfl ?_
              exact FIN.out _ HB5.out (-1) HZ.out
            | false =>
              have HZ := Lib.hid (show rowsT g a b = 2 from by rw [HR2.out, HX.out, hx2]; rfl)
              clear hx2
              go_wp2
              refine bodyPost_ret (v := .tuple #[.int .i64 2, .int .i64 0]) (by simp [results, Tryz.results55, go_sem]) rfl ?_
              exact FIN.out _ HB5.out 2 HZ.out
        · have hq' : ((n2 : Int) == 0) = false := by simpa using hq2
          have hq0 : n1 = 0 := by omega
          subst hq0
          clear hq2 hq1
          go_wp2_with fail
          refine HC1.out.mono ?_
          rintro e w4 ⟨rfl, hb4⟩
          have HC2b := Lib.hid (HC2.out w4 hb4)
          have HB4 := Lib.hid (HB3.out.trans (hb4.mono HB3.out.size))
          clear hb4
          cases hx1 : exB g us vs with
          | true =>
            have HZ := Lib.hid (show rowsT g a b = 1 from by rw [HR2.out, hx1]; rfl)
            clear hx1
            go_wp2
            refine bodyPost_ret (v := .tuple #[.int .i64 1, .int .i64 0]) (by simp [results, Tryz.results55, go_sem]) rfl ?_
            exact FIN.out _ HB4.out 1 HZ.out
          | false =>
            have HX := Lib.hid hx1
            clear hx1
            go_wp2_with fail
            refine HC2b.out.mono ?_
            rintro e w5 ⟨rfl, hb5⟩
            have HB5 := Lib.hid (HB4.out.trans (hb5.mono HB4.out.size))
            clear hb5
            cases hx2 : exB g vs us with
            | true =>
              have HZ := Lib.hid (show rowsT g a b = -1 from by rw [HR2.out, HX.out, hx2]; rfl)
              clear hx2
              go_wp2
              refine bodyPost_ret (v := .tuple #[.int .i64 (-1), .int .i64 0]) (by simp [results, Tryz.results55, go_sem]) rfl ?_
              exact FIN.out _ HB5.out (-1) HZ.out
            | false =>
              have HZ := Lib.hid (show rowsT g a b = 2 from by rw [HR2.out, HX.out, hx2]; rfl)
              clear hx2
              go_wp2
              refine bodyPost_ret (v := .tuple #[.int .i64 2, .int .i64 0]) (by simp [results, Tryz.results55, go_sem]) rfl ?_
              exact FIN.out _ HB5.out 2 HZ.out
    · have HV := Lib.hid (show mulV g a b = .tuple #[.int .i64 0, .int .i64 (errF g b)] from by unfold mulV; rw [if_pos HE1.out, if_neg h2])
      obtain ⟨r, hr⟩ : ∃ r, errF g b = r := ⟨_, rfl⟩
      rw [hr] at HV h2 ⊢
      have h3 : (r != 0) = true := by simpa using h2
      clear h2 hr
      go_wp2
      refine bodyPost_ret (v := .tuple #[.int .i64 0, .int .i64 r]) (by simp [results, Tryz.results55, go_sem]) rfl ?_
      exact ⟨by rw [HV.out], HB2.out⟩
  · have HV := Lib.hid (show mulV g a b = .tuple #[.int .i64 0, .int .i64 (errF g a)] from by unfold mulV; rw [if_neg h1])
    obtain ⟨r, hr⟩ : ∃ r, errF g a = r := ⟨_, rfl⟩
    rw [hr] at HV h1 ⊢
    have h3 : (r != 0) = true := by simpa using h1
    clear h1 hr
    go_wp2
    refine bodyPost_ret (v := .tuple #[.int .i64 0, .int .i64 r]) (by simp [results, Tryz.results55, go_sem]) rfl ?_
    exact ⟨by rw [HV.out], HB1.out⟩

end Go.Proofs.YtbdabdjpgmnejaaGreat

/- Multisets compared by a strict order of their elements: plain facts, for any type. -/
namespace Go.Proofs.YtbdabdjpgmnejaaGreat
set_option linter.unusedVariables false
set_option linter.unusedSimpArgs false
set_option linter.unusedSectionVars false

section
variable {α : Type} [DecidableEq α] {R : α → α → Prop}

/-- a is greater than b: where b has more of y, a has more of some x that is greater than y; and a has more of something. -/
def gtMs (R : α → α → Prop) (a b : List α) : Prop := (∃ x, b.count x < a.count x) ∧ ∀ y, a.count y < b.count y → ∃ x, b.count x < a.count x ∧ R x y

/-- Of some that meet a condition one is greatest, in that none that meets it is greater. -/
theorem exists_max (hi : ∀ x, ¬ R x x) (ht : ∀ x y z, R x y → R y z → R x z) (p : α → Prop) : ∀ (l : List α), (∃ x ∈ l, p x) → ∃ x ∈ l, p x ∧ ∀ y ∈ l, p y → ¬ R y x
  | [], h => by obtain ⟨x, hx, _⟩ := h; simp at hx
  | a :: l, h => by
    by_cases hl : ∃ x ∈ l, p x
    · obtain ⟨x, hx, hp, hm⟩ := exists_max hi ht p l hl
      by_cases q : p a ∧ R a x
      · refine ⟨a, List.mem_cons_self .., q.1, fun y hy hpy hr => ?_⟩
        rcases List.mem_cons.1 hy with rfl | hy
        · exact hi _ hr
        · exact hm y hy hpy (ht _ _ _ hr q.2)
      · refine ⟨x, List.mem_cons_of_mem _ hx, hp, fun y hy hpy hr => ?_⟩
        rcases List.mem_cons.1 hy with rfl | hy
        · exact q ⟨hpy, hr⟩
        · exact hm y hy hpy hr
    · obtain ⟨x, hx, hp⟩ := h
      rcases List.mem_cons.1 hx with rfl | hx
      · refine ⟨x, List.mem_cons_self .., hp, fun y hy hpy hr => ?_⟩
        rcases List.mem_cons.1 hy with rfl | hy
        · exact hi _ hr
        · exact hl ⟨y, hy, hpy⟩
      · exact absurd ⟨x, hx, hp⟩ hl

theorem gtMs_irrefl (a : List α) : ¬ gtMs R a a := fun ⟨⟨x, hx⟩, _⟩ => by omega
theorem gtMs_congr {a b a' b' : List α} (ha : ∀ x, a.count x = a'.count x) (hb : ∀ x, b.count x = b'.count x) : gtMs R a b ↔ gtMs R a' b' := by
  unfold gtMs
  simp only [ha, hb]

theorem gtMs_trans (hi : ∀ x, ¬ R x x) (ht : ∀ x y z, R x y → R y z → R x z) {a b c : List α} (h1 : gtMs R a b) (h2 : gtMs R b c) : gtMs R a c := by
  obtain ⟨⟨x0, hx0⟩, d1⟩ := h1
  obtain ⟨_, d2⟩ := h2
  -- among those that differ, a greatest one has more in a than in c
  have key : ∀ (p : α → Prop), (∀ x y, p x → R y x → p y) → (∃ x, p x ∧ (a.count x ≠ b.count x ∨ b.count x ≠ c.count x)) → ∃ z, p z ∧ c.count z < a.count z := by
    intro p hup hex
    obtain ⟨x, hpx, hd⟩ := hex
    have hl : ∃ x ∈ a ++ b ++ c, p x ∧ (a.count x ≠ b.count x ∨ b.count x ≠ c.count x) := by
      refine ⟨x, ?_, hpx, hd⟩
      have : 0 < a.count x ∨ 0 < b.count x ∨ 0 < c.count x := by omega
      simp only [List.mem_append]
      rcases this with h | h | h
      · exact .inl (.inl (List.count_pos_iff.1 h))
      · exact .inl (.inr (List.count_pos_iff.1 h))
      · exact .inr (List.count_pos_iff.1 h)
    obtain ⟨z, _, ⟨hpz, hdz⟩, hm⟩ := exists_max hi ht (fun x => p x ∧ (a.count x ≠ b.count x ∨ b.count x ≠ c.count x)) (a ++ b ++ c) hl
    have none : ∀ y, R y z → a.count y = b.count y ∧ b.count y = c.count y := by
      intro y hy
      by_cases e : a.count y ≠ b.count y ∨ b.count y ≠ c.count y
      · exfalso
        have hmem : y ∈ a ++ b ++ c := by
          have : 0 < a.count y ∨ 0 < b.count y ∨ 0 < c.count y := by omega
          simp only [List.mem_append]
          rcases this with h | h | h
          · exact .inl (.inl (List.count_pos_iff.1 h))
          · exact .inl (.inr (List.count_pos_iff.1 h))
          · exact .inr (List.count_pos_iff.1 h)
        exact hm y hmem ⟨hup z y hpz hy, e⟩ hy
      · omega
    have g1 : b.count z ≤ a.count z := by
      by_cases q : a.count z < b.count z
      · obtain ⟨x, hx, hr⟩ := d1 z q
        have := (none x hr).1
        omega
      · omega
    have g2 : c.count z ≤ b.count z := by
      by_cases q : b.count z < c.count z
      · obtain ⟨x, hx, hr⟩ := d2 z q
        have := (none x hr).2
        omega
      · omega
    exact ⟨z, hpz, by omega⟩
  constructor
  · obtain ⟨z, _, hz⟩ := key (fun _ => True) (fun _ _ _ _ => trivial) ⟨x0, trivial, .inl (by omega)⟩
    exact ⟨z, hz⟩
  · intro y hy
    have : ∃ x, R x y ∧ (a.count x ≠ b.count x ∨ b.count x ≠ c.count x) := by
      by_cases q : b.count y < c.count y
      · obtain ⟨x, hx, hr⟩ := d2 y q
        exact ⟨x, hr, .inr (by omega)⟩
      · obtain ⟨x, hx, hr⟩ := d1 y (by omega)
        exact ⟨x, hr, .inl (by omega)⟩
    obtain ⟨z, hz, hc⟩ := key (fun x => R x y) (fun x z hx hz => ht _ _ _ hz hx) this
    exact ⟨z, hc, hz⟩
theorem gtMs_asym (hi : ∀ x, ¬ R x x) (ht : ∀ x y z, R x y → R y z → R x z) {a b : List α} (h : gtMs R a b) : ¬ gtMs R b a := fun h' => gtMs_irrefl a (gtMs_trans hi ht h h')

/-- The other way to say it: something common, and for each of the rest of b a greater one in the rest of a, which is not empty. -/
theorem gtMs_of {Z X Y : List α} (hi : ∀ x, ¬ R x x) (ht : ∀ x y z, R x y → R y z → R x z) (hX : X ≠ []) (h : ∀ y ∈ Y, ∃ x ∈ X, R x y) : gtMs R (Z ++ X) (Z ++ Y) := by
  have key : ∀ (p : α → Prop), (∀ x y, p x → R y x → p y) → (∃ x ∈ X, p x) → ∃ z, p z ∧ Y.count z < X.count z := by
    intro p hup hex
    obtain ⟨z, hz, hpz, hm⟩ := exists_max hi ht p X hex
    refine ⟨z, hpz, ?_⟩
    have h1 : 0 < X.count z := List.count_pos_iff.2 hz
    by_cases q : 0 < Y.count z
    · obtain ⟨x, hx, hr⟩ := h z (List.count_pos_iff.1 q)
      exact absurd hr (hm x hx (hup z x hpz hr))
    · omega
  constructor
  · obtain ⟨x, hx⟩ := List.exists_mem_of_ne_nil X hX
    obtain ⟨z, _, hz⟩ := key (fun _ => True) (fun _ _ _ _ => trivial) ⟨x, hx, trivial⟩
    exact ⟨z, by rw [List.count_append, List.count_append]; omega⟩
  · intro y hy
    rw [List.count_append, List.count_append] at hy
    obtain ⟨x, hx, hr⟩ := h y (List.count_pos_iff.1 (by omega))
    obtain ⟨z, hz, hc⟩ := key (fun x => R x y) (fun x z hx hz => ht _ _ _ hz hx) ⟨x, hx, hr⟩
    exact ⟨z, by rw [List.count_append, List.count_append]; omega, hz⟩

/-- What two rows have in common, and what is left. -/
def comM : List α → List α → List α
  | [], _ => []
  | t :: a, b => if t ∈ b then t :: comM a (b.erase t) else comM a b
def remM : List α → List α → List α
  | [], _ => []
  | t :: a, b => if t ∈ b then remM a (b.erase t) else t :: remM a b
theorem remM_count (z : α) : ∀ (a b : List α), (remM a b).count z = a.count z - b.count z
  | [], b => by simp [remM]
  | t :: a, b => by
    rw [remM]
    by_cases h : t ∈ b
    · rw [if_pos h, remM_count z a (b.erase t), List.count_cons, List.count_erase]
      by_cases e : t = z
      · subst e
        have : 0 < b.count t := List.count_pos_iff.2 h
        simp; omega
      · have e1 : (t == z) = false := by simpa using e
        simp [e1]
    · rw [if_neg h, List.count_cons, remM_count z a b, List.count_cons]
      by_cases e : t = z
      · subst e
        rw [List.count_eq_zero.2 h]; simp
      · have e1 : (t == z) = false := by simpa using e
        simp [e1]
theorem comM_count (z : α) : ∀ (a b : List α), (comM a b).count z = min (a.count z) (b.count z)
  | [], b => by simp [comM]
  | t :: a, b => by
    rw [comM]
    by_cases h : t ∈ b
    · rw [if_pos h, List.count_cons, comM_count z a (b.erase t), List.count_cons, List.count_erase]
      by_cases e : t = z
      · subst e
        have : 0 < b.count t := List.count_pos_iff.2 h
        simp; omega
      · have e1 : (t == z) = false := by simpa using e
        simp [e1]
    · rw [if_neg h, comM_count z a b, List.count_cons]
      by_cases e : t = z
      · subst e
        rw [List.count_eq_zero.2 h]; simp
      · have e1 : (t == z) = false := by simpa using e
        simp [e1]
theorem remM_mem {z : α} {a b : List α} : z ∈ remM a b ↔ b.count z < a.count z := by
  rw [← List.count_pos_iff, remM_count]; omega
theorem perm_com (a b : List α) : (comM a b ++ remM a b).Perm a := List.perm_iff_count.2 fun z => by
  rw [List.count_append, comM_count, remM_count]; omega
theorem perm_com' (a b : List α) : (comM a b ++ remM b a).Perm b := List.perm_iff_count.2 fun z => by
  rw [List.count_append, comM_count, remM_count]; omega
theorem gtMs_rem {a b : List α} : gtMs R a b ↔ remM a b ≠ [] ∧ ∀ y ∈ remM b a, ∃ x ∈ remM a b, R x y := by
  unfold gtMs
  simp only [remM_mem]
  refine and_congr ?_ Iff.rfl
  constructor
  · rintro ⟨x, hx⟩ e
    have := remM_mem.2 hx
    rw [e] at this; simp at this
  · intro h
    obtain ⟨x, hx⟩ := List.exists_mem_of_ne_nil _ h
    exact ⟨x, remM_mem.1 hx⟩

/-- An order of elements that a map keeps is kept by the map of multisets. -/
theorem gtMs_map {β : Type} [DecidableEq β] {S : β → β → Prop} (σ : α → β) (hi : ∀ x, ¬ S x x) (ht : ∀ x y z, S x y → S y z → S x z) {a b : List α} (hσ : ∀ x ∈ a, ∀ y ∈ b, R x y → S (σ x) (σ y)) (h : gtMs R a b) : gtMs S (a.map σ) (b.map σ) := by
  obtain ⟨h1, h2⟩ := gtMs_rem.1 h
  have hg := gtMs_of (R := S) (Z := (comM a b).map σ) (X := (remM a b).map σ) (Y := (remM b a).map σ) hi ht (by simpa using h1) (fun y hy => by
    obtain ⟨y0, hy0, rfl⟩ := List.mem_map.1 hy
    obtain ⟨x0, hx0, hr⟩ := h2 y0 hy0
    have ha : x0 ∈ a := List.count_pos_iff.1 (by have := remM_mem.1 hx0; omega)
    have hb : y0 ∈ b := List.count_pos_iff.1 (by have := remM_mem.1 hy0; omega)
    exact ⟨σ x0, List.mem_map.2 ⟨x0, hx0, rfl⟩, hσ x0 ha y0 hb hr⟩)
  rw [← List.map_append, ← List.map_append] at hg
  exact (gtMs_congr (fun x => ((perm_com a b).map σ).count_eq x) (fun x => ((perm_com' a b).map σ).count_eq x)).1 hg

/-- Where of two elements one is always greater, of two rows one is, or they have the same elements. -/
theorem gtMs_total (hi : ∀ x, ¬ R x x) (ht : ∀ x y z, R x y → R y z → R x z) {a b : List α} (hT : ∀ x ∈ a ++ b, ∀ y ∈ a ++ b, x = y ∨ R x y ∨ R y x) : gtMs R a b ∨ gtMs R b a ∨ ∀ x, a.count x = b.count x := by
  by_cases he : ∀ x, a.count x = b.count x
  · exact .inr (.inr he)
  · have hmem : ∀ x, a.count x ≠ b.count x → x ∈ a ++ b := fun x hx => by
      have : 0 < a.count x ∨ 0 < b.count x := by omega
      simp only [List.mem_append]
      rcases this with h | h
      · exact .inl (List.count_pos_iff.1 h)
      · exact .inr (List.count_pos_iff.1 h)
    obtain ⟨x, hx⟩ := Classical.not_forall.1 he
    obtain ⟨z, hz, hd, hm⟩ := exists_max hi ht (fun x => a.count x ≠ b.count x) (a ++ b) ⟨x, hmem x hx, hx⟩
    have hbig : ∀ y, a.count y ≠ b.count y → y ≠ z → R z y := fun y hy hne => by
      rcases hT z hz y (hmem y hy) with e | h | h
      · exact absurd e.symm hne
      · exact h
      · exact absurd h (hm y (hmem y hy) hy)
    by_cases q : b.count z < a.count z
    · exact .inl ⟨⟨z, q⟩, fun y hy => ⟨z, q, hbig y (by omega) (fun e => by subst e; omega)⟩⟩
    · exact .inr (.inl ⟨⟨z, by omega⟩, fun y hy => ⟨z, by omega, hbig y (by omega) (fun e => by subst e; omega)⟩⟩)
end

end Go.Proofs.YtbdabdjpgmnejaaGreat

/- Rows of terms, and sides of literals, as multisets. -/
namespace Go.Proofs.YtbdabdjpgmnejaaGreat
set_option linter.unusedVariables false
set_option linter.unusedSimpArgs false
open Go.RowKit

def GtK (g : Sg) (a b : T) : Prop := gtK g a b = true
theorem GtK.irrefl (g : Sg) (a : T) : ¬ GtK g a a := fun h => by unfold GtK at h; rw [gtK_self] at h; cases h
theorem GtK.trans {g : Sg} {a b c : T} (h1 : GtK g a b) (h2 : GtK g b c) : GtK g a c := gtK_trans a.size a b c (Nat.le_refl _) h1 h2
theorem diffM_rem : ∀ (a b : List T), diffM a b = remM a b
  | [], b => by simp [diffM, remM]
  | t :: a, b => by
    rw [diffM, remM]
    by_cases h : t ∈ b
    · rw [if_pos h, if_pos h, diffM_rem a (b.erase t)]
    · rw [if_neg h, if_neg h, diffM_rem a b]
theorem overT_iff {g : Sg} {a b : List T} : overT g (diffM a b) (diffM b a) = true ↔ gtMs (GtK g) a b := by
  rw [gtMs_rem, diffM_rem, diffM_rem]
  simp only [overT, Bool.and_eq_true, decide_eq_true_eq, List.all_eq_true, List.any_eq_true, GtK]
theorem rowsT_zero_iff {g : Sg} {a b : List T} : rowsT g a b = 0 ↔ ∀ x, a.count x = b.count x := by
  have h0 : (diffM a b = [] ∧ diffM b a = []) ↔ ∀ x, a.count x = b.count x := by
    constructor
    · rintro ⟨h1, h2⟩ x
      have e1 := diffM_count x a b
      have e2 := diffM_count x b a
      rw [h1] at e1
      rw [h2] at e2
      simp at e1 e2
      omega
    · intro h
      exact ⟨List.eq_nil_iff_forall_not_mem.2 fun z hz => by have := diffM_mem.1 hz; have := h z; omega, List.eq_nil_iff_forall_not_mem.2 fun z hz => by have := diffM_mem.1 hz; have := h z; omega⟩
  rw [← h0]
  unfold rowsT
  by_cases q : diffM a b = [] ∧ diffM b a = []
  · rw [if_pos q]; exact ⟨fun _ => q, fun _ => rfl⟩
  · rw [if_neg q]
    constructor
    · intro h
      split at h
      · cases h
      · split at h <;> cases h
    · intro h; exact absurd h q
theorem rowsT_more_iff {g : Sg} {a b : List T} : rowsT g a b = 1 ↔ gtMs (GtK g) a b := by
  rw [← overT_iff]
  unfold rowsT
  constructor
  · intro h
    split at h
    · cases h
    · split at h
      · assumption
      · split at h <;> cases h
  · intro h
    have hn : diffM a b ≠ [] := by
      simp only [overT, Bool.and_eq_true, decide_eq_true_eq] at h
      exact h.1
    rw [if_neg (fun e => hn e.1), if_pos h]
theorem rowsT_less_iff {g : Sg} {a b : List T} : rowsT g a b = -1 ↔ gtMs (GtK g) b a := by
  rw [← overT_iff]
  unfold rowsT
  constructor
  · intro h
    split at h
    · cases h
    · split at h
      · cases h
      · split at h
        · assumption
        · cases h
  · intro h
    have hn : diffM b a ≠ [] := by
      simp only [overT, Bool.and_eq_true, decide_eq_true_eq] at h
      exact h.1
    have hno : ¬ overT g (diffM a b) (diffM b a) = true := fun h2 => gtMs_asym (GtK.irrefl g) (fun _ _ _ => GtK.trans) (overT_iff.1 h2) (overT_iff.1 h)
    rw [if_neg (fun e => hn e.2), if_neg hno, if_pos h]
theorem rowsT_trans {g : Sg} {a b c : List T} (h1 : rowsT g a b = 1) (h2 : rowsT g b c = 1) : rowsT g a c = 1 :=
  rowsT_more_iff.2 (gtMs_trans (GtK.irrefl g) (fun _ _ _ => GtK.trans) (rowsT_more_iff.1 h1) (rowsT_more_iff.1 h2))
theorem rowsT_two {g : Sg} {a b : List T} (h0 : ¬ ∀ x, a.count x = b.count x) (h1 : ¬ gtMs (GtK g) a b) (h2 : ¬ gtMs (GtK g) b a) : rowsT g a b = 2 := by
  have n0 : rowsT g a b ≠ 0 := fun e => h0 (rowsT_zero_iff.1 e)
  have n1 : rowsT g a b ≠ 1 := fun e => h1 (rowsT_more_iff.1 e)
  have n2 : rowsT g a b ≠ -1 := fun e => h2 (rowsT_less_iff.1 e)
  unfold rowsT at n0 n1 n2 ⊢
  split
  · rename_i h; rw [if_pos h] at n0; exact absurd rfl n0
  · rename_i h
    rw [if_neg h] at n1 n2
    split
    · rename_i h'; rw [if_pos h'] at n1; exact absurd rfl n1
    · rename_i h'
      rw [if_neg h'] at n2
      split
      · rename_i h''; rw [if_pos h''] at n2; exact absurd rfl n2
      · rfl

/-! ### The sides of a literal -/
def rowL (n : Bool) (l r : T) : List T := if n then [l, l, r, r] else [l, r]
def sidesT (l r l' r' : T) : Prop := (l = l' ∧ r = r') ∨ (l = r' ∧ r = l')
theorem pair_eq {l r l' r' : T} : (∀ x, [l, r].count x = [l', r'].count x) ↔ sidesT l r l' r' := by
  constructor
  · intro h
    have hl := h l
    have hr := h r
    have hl' := h l'
    simp only [List.count_cons, List.count_nil] at hl hr hl'
    by_cases e1 : l = l'
    · subst e1
      by_cases e2 : r = r'
      · exact .inl ⟨rfl, e2⟩
      · exfalso
        have e3 : ¬ r' = r := fun e => e2 e.symm
        simp [e3] at hr
    · have e1' : ¬ l' = l := fun e => e1 e.symm
      by_cases e2 : l = r'
      · subst e2
        by_cases e3 : r = l'
        · exact .inr ⟨rfl, e3⟩
        · exfalso
          have : ¬ l' = r := fun e => e3 e.symm
          simp [e1, e3] at hl'
      · exfalso
        have e2' : ¬ r' = l := fun e => e2 e.symm
        simp [e1', e2'] at hl
  · rintro (⟨rfl, rfl⟩ | ⟨rfl, rfl⟩)
    · intro x; rfl
    · intro x; simp only [List.count_cons, List.count_nil]; omega
theorem rowL_double {l r x : T} : (rowL true l r).count x = 2 * [l, r].count x := by
  simp only [rowL, if_true, List.count_cons, List.count_nil]; omega
theorem rowL_eq {n n' : Bool} {l r l' r' : T} : (∀ x, (rowL n l r).count x = (rowL n' l' r').count x) ↔ n = n' ∧ sidesT l r l' r' := by
  have hlen : (∀ x, (rowL n l r).count x = (rowL n' l' r').count x) → n = n' := fun h => by
    have := (List.perm_iff_count.2 h).length_eq
    cases n <;> cases n' <;> simp [rowL] at this ⊢
  constructor
  · intro h
    have e := hlen h
    subst e
    refine ⟨rfl, pair_eq.1 fun x => ?_⟩
    cases n with
    | false => exact h x
    | true => have := h x; rw [rowL_double, rowL_double] at this; omega
  · rintro ⟨rfl, h⟩ x
    have := pair_eq.2 h x
    cases n with
    | false => exact this
    | true => rw [rowL_double, rowL_double, this]
theorem rowL_neg {g : Sg} {l r l' r' : T} (h : sidesT l r l' r') : gtMs (GtK g) (rowL true l r) (rowL false l' r') := by
  have hp := pair_eq.2 h
  have hf : ∀ x, (rowL false l' r').count x = [l, r].count x := fun x => (hp x).symm
  constructor
  · refine ⟨l, ?_⟩
    rw [rowL_double, hf]
    have : 0 < [l, r].count l := List.count_pos_iff.2 (by simp)
    omega
  · intro y hy
    rw [rowL_double, hf] at hy
    omega

end Go.Proofs.YtbdabdjpgmnejaaGreat

/- Contract of the reference's Var. -/
namespace Go.Proofs.YtbdabdjpgmnejaaGreat
set_option linter.unusedVariables false
set_option linter.unusedSimpArgs false
open Go.RowKit

/-- The reference's Var, of any number. -/
theorem refVar_any (v : Int) (w : World) (h1 : -9223372036854775808 ≤ v) (h2 : v ≤ 9223372036854775807) :
    Calls Tryz.prog 38 #[.int .i64 v] w fun e w' => e = .returned (tm (-1 - v) none 0 0) ∧ Below w.heap.size w w' := by
  go_enter Tryz.func38, Tryz.ntmps38
  go_wp2
  exact bodyPost_ret (v := tm (-1 - v) none 0 0) (by simp [results, Tryz.results38, go_sem]) rfl ⟨rfl, ((Below.refl _ _).alloc (Nat.le_refl _) _)⟩


end Go.Proofs.YtbdabdjpgmnejaaGreat

/- Substitutions as lists, what they put for variables, and what it means that one lies in memory. -/
namespace Go.Proofs.YtbdabdjpgmnejaaGreat
set_option linter.unusedVariables false
set_option linter.unusedSimpArgs false
open Go.RowKit

abbrev Sb := List (Int × T)
def vt (v : Int) : T := .node (-1 - v) []
def ofS : Sb → Int → T
  | [], v => vt v
  | (x, t) :: s, v => if x = v then t else ofS s v
mutual
def T.sub (f : Int → T) : T → T
  | .node h ts => if h < 0 then f (-1 - h) else .node h (T.subl f ts)
def T.subl (f : Int → T) : List T → List T
  | [] => []
  | t :: ts => t.sub f :: T.subl f ts
end
theorem T.subl_map (f : Int → T) (ts : List T) : T.subl f ts = ts.map (T.sub f) := by
  induction ts with
  | nil => rfl
  | cons t ts ih => simp [T.subl, ih]
theorem T.sub_eq (f : Int → T) (t : T) : t.sub f = if t.head < 0 then f (-1 - t.head) else .node t.head (t.args.map (T.sub f)) := by
  cases t; rw [T.sub, T.subl_map]; rfl
theorem T.sub_neg {f : Int → T} {t : T} (h : t.head < 0) : t.sub f = f (-1 - t.head) := by rw [T.sub_eq, if_pos h]
theorem T.sub_pos {f : Int → T} {t : T} (h : ¬ t.head < 0) : t.sub f = .node t.head (t.args.map (T.sub f)) := by rw [T.sub_eq, if_neg h]

/-- Is a list of bindings right, from the variable l on? -/
def rightS (l : Int) : Sb → Bool
  | [] => true
  | (x, t) :: s => (decide (l ≤ x) && decide (x ≤ 255) && decide (t.check = 0) && decide (t.head ≠ -1 - x)) && rightS (x + 1) s

/-! ### A list of bindings in memory -/
def IsB (n₀ : Nat) (W : World) (x : Int × T) (b o : Nat) : Prop := (Lit.int .i64 x.1).wf = true ∧ W.cell? ⟨b, o, none⟩ = some (.int .i64 x.1) ∧ IsT n₀ W x.2 b (o + 1)
def IsBs (n₀ : Nat) (W : World) (s : Sb) (a : Option Addr) (c : Nat) : Prop :=
  s.length ≤ c ∧ c ≤ maxLen ∧ (s = [] ∨ ∃ b o, a = some ⟨b, o, none⟩ ∧ b < n₀ ∧ ∀ (j : Nat) (x : Int × T), s[j]? = some x → IsB n₀ W x b (o + j * 3))
theorem IsBs.below {n₀ : Nat} {w w' : World} {s : Sb} {a : Option Addr} {c : Nat} (h : IsBs n₀ w s a c) (hb : Below n₀ w w') : IsBs n₀ w' s a c := by
  obtain ⟨h1, h2, h3⟩ := h
  refine ⟨h1, h2, ?_⟩
  rcases h3 with h3 | ⟨b, o, h4, h5, h6⟩
  · exact .inl h3
  · refine .inr ⟨b, o, h4, h5, fun j x hx => ?_⟩
    obtain ⟨p1, p2, p3⟩ := h6 j x hx
    exact ⟨p1, (hb.cell (p := ⟨b, _, none⟩) h5).trans p2, p3.below hb h5⟩
theorem IsBs.mono {n₀ n₁ : Nat} {w : World} {s : Sb} {a : Option Addr} {c : Nat} (h : IsBs n₀ w s a c) (hn : n₀ ≤ n₁) : IsBs n₁ w s a c := by
  obtain ⟨h1, h2, h3⟩ := h
  refine ⟨h1, h2, ?_⟩
  rcases h3 with h3 | ⟨b, o, h4, h5, h6⟩
  · exact .inl h3
  · exact .inr ⟨b, o, h4, by omega, fun j x hx => ⟨(h6 j x hx).1, (h6 j x hx).2.1, (h6 j x hx).2.2.mono hn⟩⟩
theorem IsBs.nil (n₀ : Nat) (w : World) (a : Option Addr) {c : Nat} (hc : c ≤ maxLen) : IsBs n₀ w [] a c := ⟨by simp, hc, .inl rfl⟩
theorem later_bs {W : World} {s : Sb} {a : Option Addr} {c : Nat} (h : IsBs W.heap.size W s a c) : Later (fun X => IsBs X.heap.size X s a c) W := fun X hX => (h.below hX).mono hX.size
/-- The element i of a list of bindings: its three cells. -/
theorem IsBs.elem {n₀ : Nat} {w : World} {s : Sb} {a : Option Addr} {c : Nat} (h : IsBs n₀ w s a c) {i : Nat} (hi : i < s.length) :
    ∃ (b o : Nat) (v : Int) (t : T) (a' : Option Addr) (c' : Nat), a = some ⟨b, o, none⟩ ∧ b < n₀ ∧ s[i]? = some (v, t) ∧ (Lit.int .i64 v).wf = true ∧ (Lit.int .i64 t.head).wf = true ∧ w.cell? ⟨b, o + i * 3, none⟩ = some (.int .i64 v) ∧ w.cell? ⟨b, o + i * 3 + 1, none⟩ = some (.int .i64 t.head) ∧
      w.cell? ⟨b, o + i * 3 + 2, none⟩ = some (.slice a' t.args.length c') ∧ IsArgs n₀ w t.args a' c' := by
  obtain ⟨_, _, h3⟩ := h
  rcases h3 with rfl | ⟨b, o, rfl, h4, h5⟩
  · simp at hi
  · obtain ⟨p0, p1, p2⟩ := h5 i _ (List.getElem?_eq_getElem hi)
    obtain ⟨q0, q1, a', c', q2, q3⟩ := isT_iff.1 p2
    exact ⟨b, o, s[i].1, s[i].2, a', c', rfl, h4, List.getElem?_eq_getElem hi, p0, q0, p1, q1, q2, q3⟩

theorem rightS_step {l : Int} {s : Sb} {k : Nat} {x : Int} {t : T} (h : s[k]? = some (x, t)) : rightS l (s.drop k) = ((decide (l ≤ x) && decide (x ≤ 255) && decide (t.check = 0) && decide (t.head ≠ -1 - x)) && rightS (x + 1) (s.drop (k + 1))) := by
  obtain ⟨hk, e⟩ := List.getElem?_eq_some_iff.1 h
  rw [List.drop_eq_getElem_cons hk, e, rightS]
theorem ofS_step {s : Sb} {k : Nat} {x : Int} {t : T} (v : Int) (h : s[k]? = some (x, t)) : ofS (s.drop k) v = if x = v then t else ofS (s.drop (k + 1)) v := by
  obtain ⟨hk, e⟩ := List.getElem?_eq_some_iff.1 h
  rw [List.drop_eq_getElem_cons hk, e, ofS]

end Go.Proofs.YtbdabdjpgmnejaaGreat
