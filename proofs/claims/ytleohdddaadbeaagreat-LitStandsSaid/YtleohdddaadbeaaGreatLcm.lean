/- Contract of lit's Compare. -/
import Derived.Test.YtleohdddaadbeaaGreatLck
import Derived.Test.YtleohdddaadbeaaGreatKmu
import Derived.Test.YtleohdddaadbeaaGreatQBm
import Derived.BigQuiet
import Derived.Deep.QuietTactic
import Derived.Deep.RegionLaw
import Derived.Deep.RegionHeld3
namespace Go.Proofs.YtleohdddaadbeaaGreat
set_option linter.unusedVariables false
set_option linter.unusedSimpArgs false
open Go.RowKit

/-- What Compare of literals answers: a number and an error. -/
def lcE (g : Sg) (x y : LV) : Int := if errL g x.l x.r = 0 then errL g y.l y.r else errL g x.l x.r
def lcR (g : Sg) (x y : LV) : Int := if errL g x.l x.r = 0 then (if errL g y.l y.r = 0 then rowsT g (rowL x.n x.l x.r) (rowL y.n y.l y.r) else 0) else 0

theorem row_two {b : Nat} {x : LV} {X : World} {obj : Obj} {W : World} (h : IsLv W.heap.size W x) (hb : W.heap.size = b) (ho : obj = .cells #[.int .i64 x.l.head, .slice x.pa x.l.args.length x.ca, .int .i64 x.r.head, .slice x.pb x.r.args.length x.cb] 25) :
    Later (fun X => IsArgs X.heap.size X [x.l, x.r] (some ⟨b, 0, none⟩) 2) (W.alloc obj) := by
  subst hb
  subst ho
  have hal : Below W.heap.size W (W.alloc (.cells #[.int .i64 x.l.head, .slice x.pa x.l.args.length x.ca, .int .i64 x.r.head, .slice x.pb x.r.args.length x.cb] 25)) := (Below.refl _ _).alloc (Nat.le_refl _) _
  intro X hX
  have hx := (h.below hal).mono hal.size
  have hx := (hx.below hX).mono hX.size
  obtain ⟨p, q⟩ := (later_cs W #[.int .i64 x.l.head, .slice x.pa x.l.args.length x.ca, .int .i64 x.r.head, .slice x.pb x.r.args.length x.cb] 25) X hX
  exact ⟨by simp, by simp [maxLen], .inr ⟨W.heap.size, 0, rfl, p, isT_iff.2 ⟨h.lw, q 0 _ rfl, _, _, q 1 _ rfl, hx.la⟩, isT_iff.2 ⟨h.rw, q 2 _ rfl, _, _, q 3 _ rfl, hx.ra⟩, trivial⟩⟩
theorem row_four {b : Nat} {x : LV} {X : World} {obj : Obj} {W : World} (h : IsLv W.heap.size W x) (hb : W.heap.size = b) (ho : obj = .cells #[.int .i64 x.l.head, .slice x.pa x.l.args.length x.ca, .int .i64 x.l.head, .slice x.pa x.l.args.length x.ca, .int .i64 x.r.head, .slice x.pb x.r.args.length x.cb, .int .i64 x.r.head, .slice x.pb x.r.args.length x.cb] 25) :
    Later (fun X => IsArgs X.heap.size X [x.l, x.l, x.r, x.r] (some ⟨b, 0, none⟩) 4) (W.alloc obj) := by
  subst hb
  subst ho
  have hal : Below W.heap.size W (W.alloc (.cells #[.int .i64 x.l.head, .slice x.pa x.l.args.length x.ca, .int .i64 x.l.head, .slice x.pa x.l.args.length x.ca, .int .i64 x.r.head, .slice x.pb x.r.args.length x.cb, .int .i64 x.r.head, .slice x.pb x.r.args.length x.cb] 25)) := (Below.refl _ _).alloc (Nat.le_refl _) _
  intro X hX
  have hx := (h.below hal).mono hal.size
  have hx := (hx.below hX).mono hX.size
  obtain ⟨p, q⟩ := (later_cs W #[.int .i64 x.l.head, .slice x.pa x.l.args.length x.ca, .int .i64 x.l.head, .slice x.pa x.l.args.length x.ca, .int .i64 x.r.head, .slice x.pb x.r.args.length x.cb, .int .i64 x.r.head, .slice x.pb x.r.args.length x.cb] 25) X hX
  exact ⟨by simp, by simp [maxLen], .inr ⟨W.heap.size, 0, rfl, p, isT_iff.2 ⟨h.lw, q 0 _ rfl, _, _, q 1 _ rfl, hx.la⟩, isT_iff.2 ⟨h.lw, q 2 _ rfl, _, _, q 3 _ rfl, hx.la⟩, isT_iff.2 ⟨h.rw, q 4 _ rfl, _, _, q 5 _ rfl, hx.ra⟩, isT_iff.2 ⟨h.rw, q 6 _ rfl, _, _, q 7 _ rfl, hx.ra⟩, trivial⟩⟩

set_option maxRecDepth 100000 in
set_option maxHeartbeats 2000000 in
theorem multiset_any (x : LV) (w : World) (hX : IsLv w.heap.size w x) :
    Calls Tryz.prog 15 #[x.v] w fun e w' => ∃ a c, e = .returned (.slice a (rowL x.n x.l x.r).length c) ∧ Below w.heap.size w w' ∧ Later (fun X => IsArgs X.heap.size X (rowL x.n x.l x.r) a c) w' := by
  have hF : Below w.heap.size w (w.alloc x.obj) := (Below.refl _ w).alloc (Nat.le_refl _) _
  have HX := Lib.hid ((hX.below hF).mono hF.size)
  have HF := Lib.hid hF
  clear hX hF
  obtain ⟨n, l, r, pa, ca, pb, cb⟩ := x
  go_enter Tryz.func15, Tryz.ntmps15
  cases n with
  | true =>
    go_wp2
    refine bodyPost_ret (v := .slice (some ⟨w.heap.size + 1, 0, none⟩) 4 4) (by simp [results, Tryz.results15, go_sem]) rfl ?_
    exact ⟨_, _, rfl, HF.out.alloc HF.out.size _, row_four (X := w) HX.out (by simp) rfl⟩
  | false =>
    go_wp2
    refine bodyPost_ret (v := .slice (some ⟨w.heap.size + 1, 0, none⟩) 2 2) (by simp [results, Tryz.results15, go_sem]) rfl ?_
    exact ⟨_, _, rfl, HF.out.alloc HF.out.size _, row_two (X := w) HX.out (by simp) rfl⟩

/-- Two literals in a row. -/
abbrev TwO (x y : LV) : Obj := .cells #[.bool x.n, .int .i64 x.l.head, .slice x.pa x.l.args.length x.ca, .int .i64 x.r.head, .slice x.pb x.r.args.length x.cb, .bool y.n, .int .i64 y.l.head, .slice y.pa y.l.args.length y.ca, .int .i64 y.r.head, .slice y.pb y.r.args.length y.cb] 27
def Twc (b : Nat) (x y : LV) (X : World) : Prop :=
  (X.cell? ⟨b, 0, none⟩ = some (.bool x.n) ∧ X.cell? ⟨b, 1, none⟩ = some (.int .i64 x.l.head) ∧ X.cell? ⟨b, 2, none⟩ = some (.slice x.pa x.l.args.length x.ca) ∧ X.cell? ⟨b, 3, none⟩ = some (.int .i64 x.r.head) ∧ X.cell? ⟨b, 4, none⟩ = some (.slice x.pb x.r.args.length x.cb)) ∧
  (X.cell? ⟨b, 5, none⟩ = some (.bool y.n) ∧ X.cell? ⟨b, 6, none⟩ = some (.int .i64 y.l.head) ∧ X.cell? ⟨b, 7, none⟩ = some (.slice y.pa y.l.args.length y.ca) ∧ X.cell? ⟨b, 8, none⟩ = some (.int .i64 y.r.head) ∧ X.cell? ⟨b, 9, none⟩ = some (.slice y.pb y.r.args.length y.cb))
theorem later_tw (W : World) (x y : LV) : Later (Twc W.heap.size x y) (W.alloc (TwO x y)) := fun X hX => by
  have c : ∀ i, X.cell? ⟨W.heap.size, i, none⟩ = (W.alloc (TwO x y)).cell? ⟨W.heap.size, i, none⟩ := fun i => hX.cell (p := ⟨W.heap.size, i, none⟩) (by simp)
  refine ⟨⟨?_, ?_, ?_, ?_, ?_⟩, ?_, ?_, ?_, ?_, ?_⟩ <;> rw [c] <;> simp [go_sem]
theorem Later.pushTw {F : World → Prop} {W W' : World} (k : Later F W) (hb : Below W.heap.size W W') (x y : LV) : Later (fun X => Twc W'.heap.size x y X ∧ F X) (W'.alloc (TwO x y)) :=
  (k.mv (hb.alloc hb.size _)).and (later_tw W' x y)

def LcI (g : Sg) (x y : LV) (w1 : World) (i : Value) (wr : World) : Prop :=
  Below w1.heap.size w1 wr ∧ (i = .int .i64 0 ∨ (i = .int .i64 1 ∧ errL g x.l x.r = 0) ∨ (i = .int .i64 2 ∧ errL g x.l x.r = 0 ∧ errL g y.l y.r = 0))
theorem bl_drew9 {W u : World} (h : Below W.drew.heap.size W.drew u) : Below W.heap.size W u := ⟨h.os, h.tape, h.output, h.size, h.block⟩
theorem bl_call9 {A W u : World} (h : Below A.heap.size A W) (hu : Below W.heap.size W u) : Below A.heap.size A u := h.trans (hu.mono h.size)
theorem lc_mul {g : Sg} {x y : LV} (h1 : errL g x.l x.r = 0) (h2 : errL g y.l y.r = 0) : muE g (rowL x.n x.l x.r) (rowL y.n y.l y.r) = 0 ∧ muR g (rowL x.n x.l x.r) (rowL y.n y.l y.r) = rowsT g (rowL x.n x.l x.r) (rowL y.n y.l y.r) := by
  obtain ⟨a1, a2, _⟩ := errL_ok h1
  obtain ⟨b1, b2, _⟩ := errL_ok h2
  have e1 := errF_row (n := x.n) a1 a2
  have e2 := errF_row (n := y.n) b1 b2
  unfold muE muR
  rw [if_pos e1, if_pos e1, if_pos e2]
  exact ⟨e2, rfl⟩

set_option maxRecDepth 100000 in
set_option maxHeartbeats 8000000 in
theorem litCompare_any (g : Sg) (x y : LV) (hx : x.sz) (hy : y.sz) (n₀ : Nat) (ga : Option Addr) (gc : Nat) (w : World) (hn : n₀ ≤ w.heap.size) (hG : IsSg n₀ w g ga gc) (hX : IsLv n₀ w x) (hY : IsLv n₀ w y) :
    Calls Tryz.prog 6 #[.slice ga g.length gc, x.v, y.v] w fun e w' => e = .returned (.tuple #[.int .i64 (lcR g x y), .int .i64 (lcE g x y)]) ∧ Below w.heap.size w w' := by
  have d0 := (((((((Later.below (Below.refl _ w)).and (later_lv (hY.mono hn))).and (later_lv (hX.mono hn))).and (later_sg (hG.mono hn))).pushL (Below.refl _ _) x).pushL (Below.refl _ _) y).pushTw (Below.refl _ _) x y)
  simp only [heap_alloc_size] at d0
  have C1 := Lib.hid (fun (W : World) (hG : IsSg W.heap.size W g ga gc) (hX : IsLv W.heap.size W x) => litCheck_any g x hx W.heap.size ga gc W (Nat.le_refl _) hG hX)
  have C2 := Lib.hid (fun (W : World) (hG : IsSg W.heap.size W g ga gc) (hX : IsLv W.heap.size W y) => litCheck_any g y hy W.heap.size ga gc W (Nat.le_refl _) hG hX)
  have D := Lib.hid d0
  clear d0 hG hX hY
  go_enter Tryz.func6, Tryz.ntmps6
  go_wp2
  have hs1 : (((w.alloc x.obj).alloc y.obj).alloc (TwO x y)).heap.size = w.heap.size + 3 := by simp
  generalize ((w.alloc x.obj).alloc y.obj).alloc (TwO x y) = w1 at D hs1 ⊢
  go_loopw [15] (fun i wr => LcI g x y w1 i wr) (fun i _ => 2 - (intOf i).toNat)
  case atStart => exact ⟨Below.refl _ _, .inl rfl⟩
  case round =>
    obtain ⟨hB, hk⟩ := hrel
    have hbz := hB.size
    have HB := Lib.hid hB
    have D1 := Lib.hid (D.out.mv hB)
    clear hB
    rcases hk with rfl | ⟨rfl, h1⟩ | ⟨rfl, h1, h2⟩
    · obtain ⟨⟨⟨x0, x1, x2, x3, x4⟩, _⟩, _⟩ := D1.out.now
      go_wp2_with fail
      clear x0 x1 x2 x3 x4
      have hal : Below wr.heap.size wr (wr.alloc x.obj) := (Below.refl _ _).alloc (Nat.le_refl _) _
      have D2 := Lib.hid (D1.out.mv hal)
      have HB2 := Lib.hid (HB.out.trans (hal.mono hbz))
      clear hal
      generalize wr.alloc x.obj = w2 at D2 HB2 ⊢
      refine (C1.out w2 D2.out.now.2.2.2.1 D2.out.now.2.2.2.2.1).mono ?_
      rintro e w3 ⟨rfl, hb⟩
      have HB3 := Lib.hid (HB2.out.trans (hb.mono HB2.out.size))
      have HQ := Lib.hid (D2.out.mv hb).now.2.2.2.2.2.2
      clear hb
      by_cases h : errL g x.l x.r = 0
      · have H := Lib.hid h
        rw [h]
        clear h
        go_wp2
        go_roundw
        case rel => exact ⟨HB3.out, .inr (.inl ⟨rfl, H.out⟩)⟩
        case measure => simp [intOf]
      · have HE := Lib.hid (show lcE g x y = errL g x.l x.r ∧ lcR g x y = 0 from ⟨by unfold lcE; rw [if_neg h], by unfold lcR; rw [if_neg h]⟩)
        obtain ⟨k, hk⟩ : ∃ k, errL g x.l x.r = k := ⟨_, rfl⟩
        rw [hk] at HE h ⊢
        have h2 : (k != 0) = true := by simpa using h
        clear h hk
        go_wp2
        refine bodyPost_ret (v := .tuple #[.int .i64 0, .int .i64 k]) (by simp [results, Tryz.results6, go_sem]) rfl ?_
        exact ⟨by rw [HE.out.1, HE.out.2], HQ.out⟩
    · obtain ⟨⟨_, x0, x1, x2, x3, x4⟩, _⟩ := D1.out.now
      have H1 := Lib.hid h1
      clear h1
      go_wp2_with fail
      clear x0 x1 x2 x3 x4
      have hal : Below wr.heap.size wr (wr.alloc y.obj) := (Below.refl _ _).alloc (Nat.le_refl _) _
      have D2 := Lib.hid (D1.out.mv hal)
      have HB2 := Lib.hid (HB.out.trans (hal.mono hbz))
      clear hal
      generalize wr.alloc y.obj = w2 at D2 HB2 ⊢
      refine (C2.out w2 D2.out.now.2.2.2.1 D2.out.now.2.2.2.2.2.1).mono ?_
      rintro e w3 ⟨rfl, hb⟩
      have HB3 := Lib.hid (HB2.out.trans (hb.mono HB2.out.size))
      have HQ := Lib.hid (D2.out.mv hb).now.2.2.2.2.2.2
      clear hb
      by_cases h : errL g y.l y.r = 0
      · have H := Lib.hid h
        rw [h]
        clear h
        go_wp2
        go_roundw
        case rel => exact ⟨HB3.out, .inr (.inr ⟨rfl, H1.out, H.out⟩)⟩
        case measure => simp [intOf]
      · have HE := Lib.hid (show lcE g x y = errL g y.l y.r ∧ lcR g x y = 0 from ⟨by unfold lcE; rw [if_pos H1.out], by unfold lcR; rw [if_pos H1.out, if_neg h]⟩)
        obtain ⟨k, hk⟩ : ∃ k, errL g y.l y.r = k := ⟨_, rfl⟩
        rw [hk] at HE h ⊢
        have h2 : (k != 0) = true := by simpa using h
        clear h hk
        go_wp2
        refine bodyPost_ret (v := .tuple #[.int .i64 0, .int .i64 k]) (by simp [results, Tryz.results6, go_sem]) rfl ?_
        exact ⟨by rw [HE.out.1, HE.out.2], HQ.out⟩
    · have HE := Lib.hid (show lcE g x y = 0 ∧ lcR g x y = rowsT g (rowL x.n x.l x.r) (rowL y.n y.l y.r) from ⟨by unfold lcE; rw [if_pos h1, h2], by unfold lcR; rw [if_pos h1, if_pos h2]⟩)
      have hmul := lc_mul h1 h2
      have CA := Lib.hid (fun (W : World) (hW : Below wr.heap.size wr W) => multiset_any x W (D1.out.mv hW).now.2.2.2.2.1)
      have CB := Lib.hid (fun (W : World) (hW : Below wr.heap.size wr W) => multiset_any y W (D1.out.mv hW).now.2.2.2.2.2.1)
      have CM := Lib.hid (fun (W : World) (hW : Below wr.heap.size wr W) (a1 : Option Addr) (c1 : Nat) (a2 : Option Addr) (c2 : Nat) (hA : IsArgs W.heap.size W (rowL x.n x.l x.r) a1 c1) (hB : IsArgs W.heap.size W (rowL y.n y.l y.r) a2 c2) => by
        have hl : ∀ (n : Bool) (l r : T), (rowL n l r).length ≤ 1000000 := fun n l r => by cases n <;> simp [rowL]
        have hz : ∀ (z : LV), z.sz → ∀ t ∈ rowL z.n z.l z.r, t.size ≤ 1000000000000 := fun z h t ht => by
          obtain ⟨zn, zl, zr, _, _, _, _⟩ := z
          obtain ⟨h1, h2⟩ := h
          cases zn <;> simp [rowL] at ht <;> rcases ht with rfl | rfl <;> assumption
        have := multi_any g (rowL x.n x.l x.r) (rowL y.n y.l y.r) (hl _ _ _) (hl _ _ _) (hz x hx) (hz y hy) W.heap.size ga gc a1 c1 a2 c2 W (Nat.le_refl _) (D1.out.mv hW).now.2.2.2.1 hA hB
        rw [mulV_eq, hmul.1, hmul.2] at this
        exact this)
      have KP := Lib.hid (show ∀ W, Below wr.heap.size wr W → Lc w.heap.size x W ∧ Lc (w.heap.size + 1) y W ∧ Below wr.heap.size wr W from fun W hW => ⟨(D1.out.mv hW).now.2.2.1, (D1.out.mv hW).now.2.1, hW⟩)
      have HFIN := Lib.hid (fun (W : World) (hW : Below wr.heap.size wr W) => (D1.out.mv hW).now.2.2.2.2.2.2)
      simp only [Lc] at KP
      generalize rowsT g (rowL x.n x.l x.r) (rowL y.n y.l y.r) = res at HE CM
      generalize rowL x.n x.l x.r = A at CA CM
      generalize rowL y.n y.l y.r = B at CB CM
      clear h1 h2 hmul C1 C2 D1 D HB
      obtain ⟨⟨x0, x1, x2, x3, x4⟩, ⟨y0, y1, y2, y3, y4⟩, _⟩ := KP.out wr (Below.refl _ _)
      go_wp2_with fail
      refine wp_region_noPanic ?_
      go_region_held3 (fun w' => (w'.cell? ⟨w.heap.size, 0, none⟩ = some (.bool x.n) ∧ w'.cell? ⟨w.heap.size, 1, none⟩ = some (.int .i64 x.l.head) ∧ w'.cell? ⟨w.heap.size, 2, none⟩ = some (.slice x.pa x.l.args.length x.ca) ∧ w'.cell? ⟨w.heap.size, 3, none⟩ = some (.int .i64 x.r.head) ∧ w'.cell? ⟨w.heap.size, 4, none⟩ = some (.slice x.pb x.r.args.length x.cb)) ∧ (w'.cell? ⟨w.heap.size + 1, 0, none⟩ = some (.bool y.n) ∧ w'.cell? ⟨w.heap.size + 1, 1, none⟩ = some (.int .i64 y.l.head) ∧ w'.cell? ⟨w.heap.size + 1, 2, none⟩ = some (.slice y.pa y.l.args.length y.ca) ∧ w'.cell? ⟨w.heap.size + 1, 3, none⟩ = some (.int .i64 y.r.head) ∧ w'.cell? ⟨w.heap.size + 1, 4, none⟩ = some (.slice y.pb y.r.args.length y.cb)) ∧ Below wr.heap.size wr w')
        (first
          | exact KP.out _ (Below.refl _ _)
          | exact KP.out _ (Below.refl _ _).drew
          | exact KP.out _ hB)
        (first
          | (go_at_call 15; with_reducible refine (CA.out _ (‹_ ∧ _ ∧ Below wr.heap.size wr _›.2.2)).mono ?_; rintro e u1 ⟨aA, cA, rfl, hu, LA⟩; have hB := bl_call9 (‹_ ∧ _ ∧ Below wr.heap.size wr _›.2.2) hu; try (have LB' := LB.mv (by first | exact hu | exact bl_drew9 hu)))
          | (go_at_call 15; with_reducible refine (CB.out _ (‹_ ∧ _ ∧ Below wr.heap.size wr _›.2.2)).mono ?_; rintro e u2 ⟨aB, cB, rfl, hu, LB⟩; have hB := bl_call9 (‹_ ∧ _ ∧ Below wr.heap.size wr _›.2.2) hu; try (have LA' := LA.mv (by first | exact hu | exact bl_drew9 hu)))
          | (go_at_call 14; with_reducible refine (CM.out _ (‹_ ∧ _ ∧ Below wr.heap.size wr _›.2.2) aA cA aB cB (by first | exact LA'.now | exact LA.now | exact LA' _ (Below.refl _ _).drew | exact LA _ (Below.refl _ _).drew) (by first | exact LB'.now | exact LB.now | exact LB' _ (Below.refl _ _).drew | exact LB _ (Below.refl _ _).drew)).mono ?_; rintro e u3 ⟨rfl, hu⟩; have hB := bl_call9 (‹_ ∧ _ ∧ Below wr.heap.size wr _›.2.2) hu; have hfin := hB))
      all_goals
        refine NoPanic.normal ?_
        go_wp2
        refine bodyPost_ret (v := .tuple #[.int .i64 res, .int .i64 0]) (by simp [results, Tryz.results6, go_sem]) rfl ?_
        exact ⟨by rw [HE.out.1, HE.out.2], HFIN.out _ hfin⟩

end Go.Proofs.YtleohdddaadbeaaGreat
