/- QDh: joined of Rcm, Lat, Count, Lex. -/
import Derived.Test.YtleohdddaadbeaaGreatQDa
import Derived.Test.YtleohdddaadbeaaGreatLcm
import Derived.Test.YtleohdddaadbeaaGreatQDb
import Derived.Test.YtleohdddaadbeaaGreatQDg
import Derived.BigQuiet
import Derived.Deep.QuietTactic
import Derived.Deep.RegionLaw
import Derived.Deep.RegionHeld3
import Derived.Test.YtleohdddaadbeaaGreatQBd
import Derived.Test.YtleohdddaadbeaaGreatRef
import Derived.Test.YtleohdddaadbeaaGreatOrd
/- Contracts of the document's row, Stand, Compare and Orient of literals. -/
namespace Go.Proofs.YtleohdddaadbeaaGreat
set_option linter.unusedVariables false
set_option linter.unusedSimpArgs false
open Go.RowKit

set_option maxRecDepth 100000 in
set_option maxHeartbeats 2000000 in
theorem rRow_any (x : LV) (w : World) (hX : IsLv w.heap.size w x) :
    Calls Tryz.prog 39 #[x.v] w fun e w' => ∃ a c, e = .returned (.slice a (rowL x.n x.l x.r).length c) ∧ Below w.heap.size w w' ∧ Later (fun X => IsArgs X.heap.size X (rowL x.n x.l x.r) a c) w' := by
  have hF : Below w.heap.size w (w.alloc x.obj) := (Below.refl _ w).alloc (Nat.le_refl _) _
  have HX := Lib.hid ((hX.below hF).mono hF.size)
  have HF := Lib.hid hF
  clear hX hF
  obtain ⟨n, l, r, pa, ca, pb, cb⟩ := x
  go_enter Tryz.func39, Tryz.ntmps39
  cases n with
  | true =>
    go_wp2
    refine bodyPost_ret (v := .slice (some ⟨w.heap.size + 1, 0, none⟩) 4 4) (by simp [results, Tryz.results39, go_sem]) rfl ?_
    exact ⟨_, _, rfl, HF.out.alloc HF.out.size _, row_four (X := w) HX.out (by simp) rfl⟩
  | false =>
    go_wp2
    refine bodyPost_ret (v := .slice (some ⟨w.heap.size + 1, 0, none⟩) 2 2) (by simp [results, Tryz.results39, go_sem]) rfl ?_
    exact ⟨_, _, rfl, HF.out.alloc HF.out.size _, row_two (X := w) HX.out (by simp) rfl⟩

theorem rowL_ok {g : Sg} {n : Bool} {l r : T} (h : errL g l r = 0) : ∀ t ∈ rowL n l r, errT g t = 0 := by
  obtain ⟨h1, h2, _⟩ := errL_ok h
  intro t ht
  cases n <;> simp [rowL] at ht <;> rcases ht with rfl | rfl <;> assumption
theorem rowL_len (n : Bool) (l r : T) : (rowL n l r).length ≤ 1000000 := by cases n <;> simp [rowL]
theorem rowL_sz {x : LV} (h : x.sz) : ∀ t ∈ rowL x.n x.l x.r, t.size ≤ 1000000000000 := by
  obtain ⟨xn, xl, xr, _, _, _, _⟩ := x
  obtain ⟨h1, h2⟩ := h
  intro t ht
  cases xn <;> simp [rowL] at ht <;> rcases ht with rfl | rfl <;> assumption

set_option maxRecDepth 100000 in
set_option maxHeartbeats 4000000 in
theorem rLitStand_any (g : Sg) (x y : LV) (hx : x.sz) (hy : y.sz) (h1 : errL g x.l x.r = 0) (h2 : errL g y.l y.r = 0) (n₀ : Nat) (ga : Option Addr) (gc : Nat) (w : World) (hn : n₀ ≤ w.heap.size) (hG : IsSg n₀ w g ga gc) (hX : IsLv n₀ w x) (hY : IsLv n₀ w y) :
    Calls Tryz.prog 17 #[.slice ga g.length gc, x.v, y.v] w fun e w' => e = .returned (.int .i64 (rowsT g (rowL x.n x.l x.r) (rowL y.n y.l y.r))) ∧ Below w.heap.size w w' := by
  have d0 := ((((((Later.below (Below.refl _ w)).and (later_lv (hY.mono hn))).and (later_lv (hX.mono hn))).and (later_sg (hG.mono hn))).pushL (Below.refl _ _) x).pushL (Below.refl _ _) y)
  simp only [heap_alloc_size] at d0
  have D1 := Lib.hid d0
  have CM0 := Lib.hid (fun (W : World) (hG : IsSg W.heap.size W g ga gc) (a1 : Option Addr) (c1 : Nat) (a2 : Option Addr) (c2 : Nat) (hA : IsArgs W.heap.size W (rowL x.n x.l x.r) a1 c1) (hB : IsArgs W.heap.size W (rowL y.n y.l y.r) a2 c2) =>
    rRows_any g (rowL x.n x.l x.r) (rowL y.n y.l y.r) (rowL_ok h1) (rowL_ok h2) (rowL_len _ _ _) (rowL_len _ _ _) (rowL_sz hx) (rowL_sz hy) W.heap.size ga gc a1 c1 a2 c2 W (Nat.le_refl _) hG hA hB)
  clear d0 hG hX hY h1 h2
  go_enter Tryz.func17, Tryz.ntmps17
  go_wp2
  generalize (w.alloc x.obj).alloc y.obj = wr at D1 ⊢
  have CA := Lib.hid (fun (W : World) (hW : Below wr.heap.size wr W) => rRow_any x W (D1.out.mv hW).now.2.2.2.1)
  have CB := Lib.hid (fun (W : World) (hW : Below wr.heap.size wr W) => rRow_any y W (D1.out.mv hW).now.2.2.2.2.1)
  have CM := Lib.hid (fun (W : World) (hW : Below wr.heap.size wr W) => CM0.out W (D1.out.mv hW).now.2.2.1)
  have KP := Lib.hid (show ∀ W, Below wr.heap.size wr W → Lc w.heap.size x W ∧ Lc (w.heap.size + 1) y W ∧ Below wr.heap.size wr W from fun W hW => ⟨(D1.out.mv hW).now.2.1, (D1.out.mv hW).now.1, hW⟩)
  have HFIN := Lib.hid (fun (W : World) (hW : Below wr.heap.size wr W) => (D1.out.mv hW).now.2.2.2.2.2)
  have HE : ∃ res, rowsT g (rowL x.n x.l x.r) (rowL y.n y.l y.r) = res := ⟨_, rfl⟩
  obtain ⟨res, hres⟩ := HE
  have HE := Lib.hid hres
  rw [hres] at CM
  clear hres
  simp only [Lc] at KP
  generalize rowL x.n x.l x.r = A at CA CM
  generalize rowL y.n y.l y.r = B at CB CM
  clear D1 CM0
  obtain ⟨⟨x0, x1, x2, x3, x4⟩, ⟨y0, y1, y2, y3, y4⟩, _⟩ := KP.out wr (Below.refl _ _)
  refine wp_region_noPanic ?_
  go_region_held3 (fun w' => (w'.cell? ⟨w.heap.size, 0, none⟩ = some (.bool x.n) ∧ w'.cell? ⟨w.heap.size, 1, none⟩ = some (.int .i64 x.l.head) ∧ w'.cell? ⟨w.heap.size, 2, none⟩ = some (.slice x.pa x.l.args.length x.ca) ∧ w'.cell? ⟨w.heap.size, 3, none⟩ = some (.int .i64 x.r.head) ∧ w'.cell? ⟨w.heap.size, 4, none⟩ = some (.slice x.pb x.r.args.length x.cb)) ∧ (w'.cell? ⟨w.heap.size + 1, 0, none⟩ = some (.bool y.n) ∧ w'.cell? ⟨w.heap.size + 1, 1, none⟩ = some (.int .i64 y.l.head) ∧ w'.cell? ⟨w.heap.size + 1, 2, none⟩ = some (.slice y.pa y.l.args.length y.ca) ∧ w'.cell? ⟨w.heap.size + 1, 3, none⟩ = some (.int .i64 y.r.head) ∧ w'.cell? ⟨w.heap.size + 1, 4, none⟩ = some (.slice y.pb y.r.args.length y.cb)) ∧ Below wr.heap.size wr w')
    (first
      | with_reducible exact KP.out _ (Below.refl _ _)
      | with_reducible exact KP.out _ (Below.refl _ _).drew
      | with_reducible exact KP.out _ hB)
    (first
      | (go_at_call 39; with_reducible refine (CA.out _ (‹_ ∧ _ ∧ Below wr.heap.size wr _›.2.2)).mono ?_; rintro e u1 ⟨aA, cA, rfl, hu, LA⟩; have hB := bl_call9 (‹_ ∧ _ ∧ Below wr.heap.size wr _›.2.2) hu; try (have LB' := LB.mv (by first | exact hu | exact bl_drew9 hu)))
      | (go_at_call 39; with_reducible refine (CB.out _ (‹_ ∧ _ ∧ Below wr.heap.size wr _›.2.2)).mono ?_; rintro e u2 ⟨aB, cB, rfl, hu, LB⟩; have hB := bl_call9 (‹_ ∧ _ ∧ Below wr.heap.size wr _›.2.2) hu; try (have LA' := LA.mv (by first | exact hu | exact bl_drew9 hu)))
      | (go_at_call 38; with_reducible refine (CM.out _ (‹_ ∧ _ ∧ Below wr.heap.size wr _›.2.2) aA cA aB cB (by first | exact LA'.now | exact LA.now | exact LA' _ (Below.refl _ _).drew | exact LA _ (Below.refl _ _).drew) (by first | exact LB'.now | exact LB.now | exact LB' _ (Below.refl _ _).drew | exact LB _ (Below.refl _ _).drew)).mono ?_; rintro e u3 ⟨rfl, hu⟩; have hB := bl_call9 (‹_ ∧ _ ∧ Below wr.heap.size wr _›.2.2) hu; have hfin := hB))
  all_goals
    refine NoPanic.normal ?_
    go_wp2
    go_ret
    exact ⟨by rw [HE.out]; rfl, HFIN.out _ hfin⟩

/-- The document's Compare of literals. -/
theorem lc_one {g : Sg} {x y : LV} (h : errL g x.l x.r ≠ 0) : lcR g x y = 0 ∧ lcE g x y = errL g x.l x.r := ⟨by unfold lcR; rw [if_neg h], by unfold lcE; rw [if_neg h]⟩
theorem lc_two {g : Sg} {x y : LV} (h : errL g x.l x.r = 0) (h2 : errL g y.l y.r ≠ 0) : lcR g x y = 0 ∧ lcE g x y = errL g y.l y.r := ⟨by unfold lcR; rw [if_pos h, if_neg h2], by unfold lcE; rw [if_pos h]⟩
theorem lc_all {g : Sg} {x y : LV} (h : errL g x.l x.r = 0) (h2 : errL g y.l y.r = 0) : lcR g x y = rowsT g (rowL x.n x.l x.r) (rowL y.n y.l y.r) ∧ lcE g x y = 0 := ⟨by unfold lcR; rw [if_pos h, if_pos h2], by unfold lcE; rw [if_pos h, h2]⟩

set_option maxRecDepth 100000 in
set_option maxHeartbeats 4000000 in
theorem rLitCompare_any (g : Sg) (x y : LV) (hx : x.sz) (hy : y.sz) (n₀ : Nat) (ga : Option Addr) (gc : Nat) (w : World) (hn : n₀ ≤ w.heap.size) (hG : IsSg n₀ w g ga gc) (hX : IsLv n₀ w x) (hY : IsLv n₀ w y) :
    Calls Tryz.prog 7 #[.slice ga g.length gc, x.v, y.v] w fun e w' => e = .returned (.tuple #[.int .i64 (lcR g x y), .int .i64 (lcE g x y)]) ∧ Below w.heap.size w w' := by
  have d0 := ((((((Later.below (Below.refl _ w)).and (later_lv (hY.mono hn))).and (later_lv (hX.mono hn))).and (later_sg (hG.mono hn))).pushL (Below.refl _ _) x).pushL (Below.refl _ _) y)
  simp only [heap_alloc_size] at d0
  have D := Lib.hid d0
  clear d0 hG hX hY
  go_enter Tryz.func7, Tryz.ntmps7
  go_wp2_with fail
  generalize (w.alloc x.obj).alloc y.obj = w1 at D ⊢
  generalize hb0 : w.heap.size = b0 at D ⊢
  have HB0 := Lib.hid hb0
  clear hb0
  refine (rLitCheck_any g x hx w1.heap.size ga gc w1 (Nat.le_refl _) D.out.now.2.2.1 D.out.now.2.2.2.1).mono ?_
  rintro e w2 ⟨rfl, hb⟩
  have D2 := Lib.hid (D.out.mv hb)
  clear hb D
  by_cases h1 : errL g x.l x.r = 0
  case neg =>
    have HE := Lib.hid (lc_one (y := y) h1)
    have HQ := Lib.hid D2.out.now.2.2.2.2.2
    obtain ⟨k, hk⟩ : ∃ k, errL g x.l x.r = k := ⟨_, rfl⟩
    rw [hk] at h1 HE ⊢
    have h2 : (k != 0) = true := by simpa using h1
    clear h1 hk
    go_wp2
    refine bodyPost_ret (v := .tuple #[.int .i64 0, .int .i64 k]) (by simp [results, Tryz.results7, go_sem]) rfl ?_
    exact ⟨by rw [HE.out.1, HE.out.2], by rw [HB0.out]; exact HQ.out⟩
  have H1 := Lib.hid h1
  rw [h1]
  clear h1
  obtain ⟨⟨y0, y1, y2, y3, y4⟩, _⟩ := D2.out.now
  go_wp2_with fail
  clear y0 y1 y2 y3 y4
  refine (rLitCheck_any g y hy w2.heap.size ga gc w2 (Nat.le_refl _) D2.out.now.2.2.1 D2.out.now.2.2.2.2.1).mono ?_
  rintro e w3 ⟨rfl, hb⟩
  have D3 := Lib.hid (D2.out.mv hb)
  clear hb D2
  by_cases h2 : errL g y.l y.r = 0
  case neg =>
    have HE := Lib.hid (lc_two H1.out h2)
    have HQ := Lib.hid D3.out.now.2.2.2.2.2
    obtain ⟨k, hk⟩ : ∃ k, errL g y.l y.r = k := ⟨_, rfl⟩
    rw [hk] at h2 HE ⊢
    have h3 : (k != 0) = true := by simpa using h2
    clear h2 hk
    go_wp2
    refine bodyPost_ret (v := .tuple #[.int .i64 0, .int .i64 k]) (by simp [results, Tryz.results7, go_sem]) rfl ?_
    exact ⟨by rw [HE.out.1, HE.out.2], by rw [HB0.out]; exact HQ.out⟩
  have H2 := Lib.hid h2
  have HE := Lib.hid (lc_all H1.out h2)
  rw [h2]
  clear h2
  obtain ⟨⟨y0, y1, y2, y3, y4⟩, ⟨x0, x1, x2, x3, x4⟩, _⟩ := D3.out.now
  go_wp2_with fail
  clear y0 y1 y2 y3 y4 x0 x1 x2 x3 x4
  refine (rLitStand_any g x y hx hy H1.out H2.out w3.heap.size ga gc w3 (Nat.le_refl _) D3.out.now.2.2.1 D3.out.now.2.2.2.1 D3.out.now.2.2.2.2.1).mono ?_
  rintro e w4 ⟨rfl, hb⟩
  have HQ := Lib.hid (D3.out.mv hb).now.2.2.2.2.2
  clear hb D3
  generalize rowsT g (rowL x.n x.l x.r) (rowL y.n y.l y.r) = res at HE ⊢
  go_wp2
  refine bodyPost_ret (v := .tuple #[.int .i64 res, .int .i64 0]) (by simp [results, Tryz.results7, go_sem]) rfl ?_
  exact ⟨by rw [HE.out.1, HE.out.2], by rw [HB0.out]; exact HQ.out⟩

set_option maxRecDepth 100000 in
set_option maxHeartbeats 8000000 in
theorem rLitOrient_any (g : Sg) (x : LV) (hx : x.sz) (n₀ : Nat) (ga : Option Addr) (gc : Nat) (w : World) (hn : n₀ ≤ w.heap.size) (hG : IsSg n₀ w g ga gc) (hX : IsLv n₀ w x) :
    Calls Tryz.prog 9 #[.slice ga g.length gc, x.v] w (LePost (ornN g x.n x.l x.r) (ornL g x.l x.r) (ornR g x.l x.r) (errL g x.l x.r) w) := by
  have hX0 := hX.mono hn
  have d0 := (((Later.below (Below.refl _ w)).and (later_lv hX0)).and (later_sg (hG.mono hn))).pushB (Below.refl _ _) x
  have d1 := d0.pushB (Below.refl _ _) LV.zero
  simp only [heap_alloc_size] at d1
  have HXB := Lib.hid (fun (W : World) (hW : Below w.heap.size w W) => hX0.below hW)
  have D := Lib.hid d1
  clear d0 d1 hG hX hX0
  have hs1 : ((w.alloc x.obj).alloc LV.zero.obj).heap.size = w.heap.size + 2 := by simp
  obtain ⟨w1, hw1⟩ : ∃ w1, (w.alloc x.obj).alloc LV.zero.obj = w1 := ⟨_, rfl⟩
  rw [hw1] at D hs1
  have hw1' : (w.alloc x.obj).alloc (.cells #[.bool false, .int .i64 0, .slice none 0 0, .int .i64 0, .slice none 0 0] 27) = w1 := hw1
  have HW1 := Lib.hid hw1'
  clear hw1 hw1'
  go_enter Tryz.func9, Tryz.ntmps9
  go_wp2_with fail
  rw [HW1.out]
  clear HW1
  refine (rLitCheck_any g x hx w1.heap.size ga gc w1 (Nat.le_refl _) D.out.now.2.2.1 D.out.now.2.2.2.1).mono ?_
  rintro e w2 ⟨rfl, hb⟩
  have D2 := Lib.hid (D.out.mv hb)
  have hs2 := hb.size
  clear hb D
  by_cases h : errL g x.l x.r = 0
  case neg =>
    have HQ := Lib.hid D2.out.now.2.2.2.2
    have hz := D2.out.now.1
    obtain ⟨z0, z1, z2, z3, z4⟩ := hz.lc
    obtain ⟨q0, q1, q2, q3, q4⟩ := hz.lf
    simp only [LV.zero, T.head, T.args, List.length_nil] at z0 z1 z2 z3 z4
    clear hz
    obtain ⟨k, hk⟩ : ∃ k, errL g x.l x.r = k := ⟨_, rfl⟩
    have HE := Lib.hid (show ornN g x.n x.l x.r = false ∧ ornL g x.l x.r = .node 0 [] ∧ ornR g x.l x.r = .node 0 [] ∧ errL g x.l x.r = k from ⟨by unfold ornN; rw [if_neg h], by unfold ornL; rw [if_neg h], by unfold ornR; rw [if_neg h], hk⟩)
    rw [hk] at h ⊢
    have h2 : (k != 0) = true := by simpa using h
    clear h hk
    go_wp2
    refine bodyPost_ret (v := .tuple #[LV.zero.v, .int .i64 k]) (by simp [results, Tryz.results9, go_sem, z0, z1, z2, z3, z4, LV.zero, T.head, T.args]) rfl ?_
    exact ⟨LV.zero, by rw [HE.out.2.2.2], HE.out.1.symm, HE.out.2.1.symm, HE.out.2.2.1.symm, lv_zero _ _, bl_sets HQ.out (by omega) _ _ _ _ _⟩
  have HE := Lib.hid (show ornN g x.n x.l x.r = x.n ∧ ornL g x.l x.r = oriA g x.l x.r ∧ ornR g x.l x.r = oriB g x.l x.r ∧ errL g x.l x.r = 0 from ⟨by unfold ornN; rw [if_pos h], by unfold ornL; rw [if_pos h], by unfold ornR; rw [if_pos h], h⟩)
  obtain ⟨h1, h2, _⟩ := errL_ok h
  have HO := Lib.hid (And.intro h1 h2)
  have HRT := Lib.hid (errT_right h1)
  rw [h]
  clear h h1 h2
  obtain ⟨x0, x1, x2, x3, x4⟩ := D2.out.now.2.1.lc
  go_wp2_with fail
  clear x0 x1 x2 x3 x4
  refine (greater_any g HRT.out x.r.size x.r x.l (Nat.le_refl _) (errT_okT HO.out.2) (errT_okT HO.out.1) w2.heap.size ga gc x.pb x.cb x.pa x.ca w2 (Nat.le_refl _) D2.out.now.2.2.1 D2.out.now.2.2.2.1.rw D2.out.now.2.2.2.1.lw D2.out.now.2.2.2.1.ra D2.out.now.2.2.2.1.la).mono ?_
  rintro e w3 ⟨rfl, hb⟩
  have D3 := Lib.hid (D2.out.mv hb)
  have hs3 := hb.size
  clear hb D2
  have HGA := Lib.hid (oriA_gt g x.l x.r)
  have HGB := Lib.hid (oriB_gt g x.l x.r)
  have HQ := Lib.hid D3.out.now.2.2.2.2
  have hz := D3.out.now.1
  obtain ⟨z0, z1, z2, z3, z4⟩ := hz.lc
  obtain ⟨q0, q1, q2, q3, q4⟩ := hz.lf
  simp only [LV.zero, T.head, T.args, List.length_nil] at z0 z1 z2 z3 z4
  clear hz
  obtain ⟨x0, x1, x2, x3, x4⟩ := D3.out.now.2.1.lc
  cases hg : gtK g x.r x.l with
  | true =>
    have HA := Lib.hid (show oriA g x.l x.r = x.r ∧ oriB g x.l x.r = x.l from by rw [HGA.out, HGB.out, hg]; exact ⟨rfl, rfl⟩)
    clear hg z0 z1 z2 z3 z4 q0 q1 q2 q3 q4
    go_wp2_with fail
    clear x0 x1 x2 x3 x4
    refine (turn_any x w3).mono ?_
    rintro e w4 ⟨rfl, hb⟩
    have D4 := Lib.hid (D3.out.mv hb)
    have hs4 := hb.size
    have HQ4 := Lib.hid D4.out.now.2.2.2.2
    have hz := D4.out.now.1
    obtain ⟨z0, z1, z2, z3, z4⟩ := hz.lc
    obtain ⟨q0, q1, q2, q3, q4⟩ := hz.lf
    simp only [LV.zero, T.head, T.args, List.length_nil] at z0 z1 z2 z3 z4
    clear hz hb
    simp only [LV.turn]
    go_wp2
    refine bodyPost_ret (v := .tuple #[x.turn.v, .int .i64 0]) (by simp [results, Tryz.results9, go_sem, z0, z1, z2, z3, z4, LV.turn]) rfl ?_
    exact ⟨x.turn, by rw [HE.out.2.2.2], HE.out.1.symm, by rw [HE.out.2.1, HA.out.1]; rfl, by rw [HE.out.2.2.1, HA.out.2]; rfl, ((HXB.out _ (bl_sets HQ4.out (by omega) _ _ _ _ _)).turn).mono (bl_sets HQ4.out (by omega) _ _ _ _ _).size, bl_sets HQ4.out (by omega) _ _ _ _ _⟩
  | false =>
    have HA := Lib.hid (show oriA g x.l x.r = x.l ∧ oriB g x.l x.r = x.r from by rw [HGA.out, HGB.out, hg]; exact ⟨rfl, rfl⟩)
    clear hg
    go_wp2
    refine bodyPost_ret (v := .tuple #[x.v, .int .i64 0]) (by simp [results, Tryz.results9, go_sem, z0, z1, z2, z3, z4]) rfl ?_
    exact ⟨x, by rw [HE.out.2.2.2], HE.out.1.symm, by rw [HE.out.2.1, HA.out.1], by rw [HE.out.2.2.1, HA.out.2], (HXB.out _ (bl_sets HQ.out (by omega) _ _ _ _ _)).mono (bl_sets HQ.out (by omega) _ _ _ _ _).size, bl_sets HQ.out (by omega) _ _ _ _ _⟩

end Go.Proofs.YtleohdddaadbeaaGreat

/- Lat: a term equal to itself, by the reference. -/
namespace Go.Proofs.YtleohdddaadbeaaGreat
set_option linter.unusedVariables false
set_option linter.unusedSimpArgs false
open Go.RowKit

theorem sameAt_any (x y : T) (h : x = y) (hs : x.size ≤ 1000000000000) (n₀ : Nat) (a : Option Addr) (c : Nat) (a' : Option Addr) (c' : Nat) (w : World) (hn : n₀ ≤ w.heap.size) (hA : IsArgs n₀ w x.args a c) (hB : IsArgs n₀ w y.args a' c') :
    Calls Tryz.prog 27 #[tm x.head a x.args.length c, tm y.head a' y.args.length c'] w fun e w' => e = .returned (.bool true) ∧ Below w.heap.size w w' := by
  subst h
  refine (refSame_any x x hs hs n₀ a c a' c' w hn hA hB).mono fun e w' hh => ⟨?_, hh.2⟩
  rw [hh.1, T.cmp_self]; rfl


end Go.Proofs.YtleohdddaadbeaaGreat

/- Contract of Few (layer 1). -/
namespace Go.Proofs.YtleohdddaadbeaaGreat
set_option linter.unusedVariables false
set_option linter.unusedSimpArgs false
open Go.RowKit

/-- Few(t): at most 500 parts. -/
theorem few_any (t : T) (n₀ : Nat) (a : Option Addr) (c : Nat) (w : World) (hn : n₀ ≤ w.heap.size) (hA : IsArgs n₀ w t.args a c) :
    Calls Tryz.prog 12 #[tm t.head a t.args.length c] w fun e w' => e = .returned (.bool (decide (t.size ≤ 500))) ∧ Below w.heap.size w w' := by
  have HA := Lib.hid hA
  clear hA
  have hC : ∀ W, Below w.heap.size w W → Calls Tryz.prog 28 #[tm t.head a t.args.length c, .int .i64 500] W fun e w' => e = .returned (.int .i64 (min t.size 501 : Nat)) ∧ Below W.heap.size W w' :=
    fun W hW => count_any t.size t (Nat.le_refl _) 500 n₀ a c W (Nat.le_refl _) (Nat.le_trans hn hW.size) (HA.out.below (hW.mono hn))
  have HC := Lib.hid hC
  clear hC
  go_enter Tryz.func12, Tryz.ntmps12
  go_wp2_with fail
  refine (HC.out _ ((Below.refl _ _).alloc (Nat.le_refl _) _)).mono ?_
  rintro e w2 ⟨rfl, hB2⟩
  have HB2 := Lib.hid hB2
  clear hB2
  go_wp2
  go_ret
  refine ⟨?_, ((Below.refl _ w).alloc (Nat.le_refl _) _).trans (HB2.out.mono (by simp))⟩
  by_cases h : t.size ≤ 500
  · simp; omega
  · simp; omega

end Go.Proofs.YtleohdddaadbeaaGreat

/- Contracts of the document's answer: Exact and Few of literals (layer 9). -/
namespace Go.Proofs.YtleohdddaadbeaaGreat
set_option linter.unusedVariables false
set_option linter.unusedSimpArgs false
open Go.RowKit

set_option maxRecDepth 100000 in
set_option maxHeartbeats 2000000 in
/-- Two literals that are the same, side by side. -/
theorem exactAt_any (x y : LV) (en : y.n = x.n) (el : x.l = y.l) (er : x.r = y.r) (hx : x.sz) (n₀ : Nat) (w : World) (hn : n₀ ≤ w.heap.size) (hX : IsLv n₀ w x) (hY : IsLv n₀ w y) :
    Calls Tryz.prog 11 #[x.v, y.v] w fun e w' => e = .returned (.bool true) ∧ Below w.heap.size w w' := by
  have d0 := (((((Later.below (Below.refl _ w)).and (later_lv (hY.mono hn))).and (later_lv (hX.mono hn))).pushL (Below.refl _ _) x).pushL (Below.refl _ _) y)
  have C1 := Lib.hid (fun (W : World) (hX : IsLv W.heap.size W x) (hY : IsLv W.heap.size W y) => sameAt_any x.l y.l el hx.1 W.heap.size x.pa x.ca y.pa y.ca W (Nat.le_refl _) hX.la hY.la)
  have C2 := Lib.hid (fun (W : World) (hX : IsLv W.heap.size W x) (hY : IsLv W.heap.size W y) => sameAt_any x.r y.r er hx.2 W.heap.size x.pb x.cb y.pb y.cb W (Nat.le_refl _) hX.ra hY.ra)
  simp only [heap_alloc_size] at d0
  have D := Lib.hid d0
  have hnn : (x.n == y.n) = true := by rw [en]; simp
  clear hX hY d0 en el er
  go_enter Tryz.func11, Tryz.ntmps11
  go_wp2_with fail
  generalize (w.alloc x.obj).alloc y.obj = w1 at D ⊢
  generalize hb0 : w.heap.size = b0 at D ⊢
  have HB0 := Lib.hid hb0
  clear hb0
  refine (C1.out w1 D.out.now.2.2.1 D.out.now.2.2.2.1).mono ?_
  rintro e w2 ⟨rfl, hb⟩
  have D2 := Lib.hid (D.out.mv hb)
  clear hb D C1
  obtain ⟨⟨y0, y1, y2, y3, y4⟩, ⟨x0, x1, x2, x3, x4⟩, _⟩ := D2.out.now
  go_wp2_with fail
  refine (C2.out w2 D2.out.now.2.2.1 D2.out.now.2.2.2.1).mono ?_
  clear x0 x1 x2 x3 x4 y0 y1 y2 y3 y4
  rintro e w3 ⟨rfl, hb⟩
  have HQ := Lib.hid (D2.out.mv hb).now.2.2.2.2
  clear hb D2 C2
  go_wp2
  go_ret
  exact ⟨rfl, by rw [HB0.out]; exact HQ.out⟩

set_option maxRecDepth 100000 in
set_option maxHeartbeats 2000000 in
theorem litFew_any (x : LV) (n₀ : Nat) (w : World) (hn : n₀ ≤ w.heap.size) (hX : IsLv n₀ w x) :
    Calls Tryz.prog 5 #[x.v] w fun e w' => ∃ b : Bool, e = .returned (.bool b) ∧ (b = true → x.l.size ≤ 500 ∧ x.r.size ≤ 500) ∧ Below w.heap.size w w' := by
  have d0 := (((Later.below (Below.refl _ w)).and (later_lv (hX.mono hn))).pushL (Below.refl _ _) x)
  have C1 := Lib.hid (fun (W : World) (hX : IsLv W.heap.size W x) => few_any x.l W.heap.size x.pa x.ca W (Nat.le_refl _) hX.la)
  have C2 := Lib.hid (fun (W : World) (hX : IsLv W.heap.size W x) => few_any x.r W.heap.size x.pb x.cb W (Nat.le_refl _) hX.ra)
  have D := Lib.hid d0
  clear hX d0
  go_enter Tryz.func5, Tryz.ntmps5
  go_wp2_with fail
  generalize w.alloc x.obj = w1 at D ⊢
  generalize hb0 : w.heap.size = b0 at D ⊢
  have HB0 := Lib.hid hb0
  clear hb0
  refine (C1.out w1 D.out.now.2.1).mono ?_
  rintro e w2 ⟨rfl, hb⟩
  have D2 := Lib.hid (D.out.mv hb)
  clear hb D C1
  obtain ⟨⟨x0, x1, x2, x3, x4⟩, _⟩ := D2.out.now
  by_cases h1 : x.l.size ≤ 500
  · have H1 := Lib.hid h1
    rw [decide_eq_true h1]
    clear h1
    go_wp2_with fail
    refine (C2.out w2 D2.out.now.2.1).mono ?_
    clear x0 x1 x2 x3 x4
    rintro e w3 ⟨rfl, hb⟩
    have HQ := Lib.hid (D2.out.mv hb).now.2.2
    clear hb D2 C2
    obtain ⟨r, hr⟩ : ∃ r, decide (x.r.size ≤ 500) = r := ⟨_, rfl⟩
    rw [hr]
    have HR := Lib.hid (show r = true → x.l.size ≤ 500 ∧ x.r.size ≤ 500 from fun e => ⟨H1.out, of_decide_eq_true (by rw [hr, e])⟩)
    clear hr
    go_wp2
    go_ret
    exact ⟨r, by cases r <;> rfl, HR.out, by rw [HB0.out]; exact HQ.out⟩
  · have HQ := Lib.hid D2.out.now.2.2
    rw [decide_eq_false h1]
    clear h1
    go_wp2
    go_ret
    exact ⟨false, rfl, by simp, by rw [HB0.out]; exact HQ.out⟩
theorem sz_few {x : LV} (h : x.l.size ≤ 500 ∧ x.r.size ≤ 500) : x.sz := ⟨by omega, by omega⟩

end Go.Proofs.YtleohdddaadbeaaGreat
