/- QDf: joined of Lcm, Rst, Count, Lex, Ec. -/
import Derived.Test.YtbdabdjpgmnejaaGreatQDe
import Derived.Test.YtbdabdjpgmnejaaGreatQBm
import Derived.Test.YtbdabdjpgmnejaaGreatQBn
import Derived.BigQuiet
import Derived.Deep.QuietTactic
import Derived.Deep.RegionLaw
import Derived.Deep.RegionHeld3
import Derived.Test.YtbdabdjpgmnejaaGreatQDd
import Derived.Test.YtbdabdjpgmnejaaGreatQBf
import Derived.Test.YtbdabdjpgmnejaaGreatQDa
import Derived.Test.YtbdabdjpgmnejaaGreatQDb
import Derived.Lib.QuietBelow
/- Contract of lit's Compare. -/
namespace Go.Proofs.YtbdabdjpgmnejaaGreat
set_option linter.unusedVariables false
set_option linter.unusedSimpArgs false
open Go.RowKit

/-- What Compare of literals answers: a number and an error. -/
def lcE (g : Sg) (x y : LV) : Int := if errL g x.l x.r = 0 then errL g y.l y.r else errL g x.l x.r
def lcR (g : Sg) (x y : LV) : Int := if errL g x.l x.r = 0 then (if errL g y.l y.r = 0 then rowsT g (rowL x.n x.l x.r) (rowL y.n y.l y.r) else 0) else 0

theorem row_two {b : Nat} {x : LV} {X : World} {obj : Obj} {W : World} (h : IsLv W.heap.size W x) (hb : W.heap.size = b) (ho : obj = .cells #[.int .i64 x.l.head, .slice x.pa x.l.args.length x.ca, .int .i64 x.r.head, .slice x.pb x.r.args.length x.cb] 34) :
    Later (fun X => IsArgs X.heap.size X [x.l, x.r] (some ⟨b, 0, none⟩) 2) (W.alloc obj) := by
  subst hb
  subst ho
  have hal : Below W.heap.size W (W.alloc (.cells #[.int .i64 x.l.head, .slice x.pa x.l.args.length x.ca, .int .i64 x.r.head, .slice x.pb x.r.args.length x.cb] 34)) := (Below.refl _ _).alloc (Nat.le_refl _) _
  intro X hX
  have hx := (h.below hal).mono hal.size
  have hx := (hx.below hX).mono hX.size
  obtain ⟨p, q⟩ := (later_cs W #[.int .i64 x.l.head, .slice x.pa x.l.args.length x.ca, .int .i64 x.r.head, .slice x.pb x.r.args.length x.cb] 34) X hX
  exact ⟨by simp, by simp [maxLen], .inr ⟨W.heap.size, 0, rfl, p, isT_iff.2 ⟨h.lw, q 0 _ rfl, _, _, q 1 _ rfl, hx.la⟩, isT_iff.2 ⟨h.rw, q 2 _ rfl, _, _, q 3 _ rfl, hx.ra⟩, trivial⟩⟩
theorem row_four {b : Nat} {x : LV} {X : World} {obj : Obj} {W : World} (h : IsLv W.heap.size W x) (hb : W.heap.size = b) (ho : obj = .cells #[.int .i64 x.l.head, .slice x.pa x.l.args.length x.ca, .int .i64 x.l.head, .slice x.pa x.l.args.length x.ca, .int .i64 x.r.head, .slice x.pb x.r.args.length x.cb, .int .i64 x.r.head, .slice x.pb x.r.args.length x.cb] 34) :
    Later (fun X => IsArgs X.heap.size X [x.l, x.l, x.r, x.r] (some ⟨b, 0, none⟩) 4) (W.alloc obj) := by
  subst hb
  subst ho
  have hal : Below W.heap.size W (W.alloc (.cells #[.int .i64 x.l.head, .slice x.pa x.l.args.length x.ca, .int .i64 x.l.head, .slice x.pa x.l.args.length x.ca, .int .i64 x.r.head, .slice x.pb x.r.args.length x.cb, .int .i64 x.r.head, .slice x.pb x.r.args.length x.cb] 34)) := (Below.refl _ _).alloc (Nat.le_refl _) _
  intro X hX
  have hx := (h.below hal).mono hal.size
  have hx := (hx.below hX).mono hX.size
  obtain ⟨p, q⟩ := (later_cs W #[.int .i64 x.l.head, .slice x.pa x.l.args.length x.ca, .int .i64 x.l.head, .slice x.pa x.l.args.length x.ca, .int .i64 x.r.head, .slice x.pb x.r.args.length x.cb, .int .i64 x.r.head, .slice x.pb x.r.args.length x.cb] 34) X hX
  exact ⟨by simp, by simp [maxLen], .inr ⟨W.heap.size, 0, rfl, p, isT_iff.2 ⟨h.lw, q 0 _ rfl, _, _, q 1 _ rfl, hx.la⟩, isT_iff.2 ⟨h.lw, q 2 _ rfl, _, _, q 3 _ rfl, hx.la⟩, isT_iff.2 ⟨h.rw, q 4 _ rfl, _, _, q 5 _ rfl, hx.ra⟩, isT_iff.2 ⟨h.rw, q 6 _ rfl, _, _, q 7 _ rfl, hx.ra⟩, trivial⟩⟩

set_option maxRecDepth 100000 in
set_option maxHeartbeats 2000000 in
theorem multiset_any (x : LV) (w : World) (hX : IsLv w.heap.size w x) :
    Calls Tryz.prog 56 #[x.v] w fun e w' => ∃ a c, e = .returned (.slice a (rowL x.n x.l x.r).length c) ∧ Below w.heap.size w w' ∧ Later (fun X => IsArgs X.heap.size X (rowL x.n x.l x.r) a c) w' := by
  have hF : Below w.heap.size w (w.alloc x.obj) := (Below.refl _ w).alloc (Nat.le_refl _) _
  have HX := Lib.hid ((hX.below hF).mono hF.size)
  have HF := Lib.hid hF
  clear hX hF
  obtain ⟨n, l, r, pa, ca, pb, cb⟩ := x
  go_enter Tryz.func56, Tryz.ntmps56
  cases n with
  | true =>
    go_wp2
    refine bodyPost_ret (v := .slice (some ⟨w.heap.size + 1, 0, none⟩) 4 4) (by simp [results, Tryz.results56, go_sem]) rfl ?_
    exact ⟨_, _, rfl, HF.out.alloc HF.out.size _, row_four (X := w) HX.out (by simp) rfl⟩
  | false =>
    go_wp2
    refine bodyPost_ret (v := .slice (some ⟨w.heap.size + 1, 0, none⟩) 2 2) (by simp [results, Tryz.results56, go_sem]) rfl ?_
    exact ⟨_, _, rfl, HF.out.alloc HF.out.size _, row_two (X := w) HX.out (by simp) rfl⟩

/-- Two literals in a row. -/
abbrev TwO (x y : LV) : Obj := .cells #[.bool x.n, .int .i64 x.l.head, .slice x.pa x.l.args.length x.ca, .int .i64 x.r.head, .slice x.pb x.r.args.length x.cb, .bool y.n, .int .i64 y.l.head, .slice y.pa y.l.args.length y.ca, .int .i64 y.r.head, .slice y.pb y.r.args.length y.cb] 36
def Twc (b : Nat) (x y : LV) (X : World) : Prop :=
  (X.cell? ⟨b, 0, none⟩ = some (.bool x.n) ∧ X.cell? ⟨b, 1, none⟩ = some (.int .i64 x.l.head) ∧ X.cell? ⟨b, 2, none⟩ = some (.slice x.pa x.l.args.length x.ca) ∧ X.cell? ⟨b, 3, none⟩ = some (.int .i64 x.r.head) ∧ X.cell? ⟨b, 4, none⟩ = some (.slice x.pb x.r.args.length x.cb)) ∧
  (X.cell? ⟨b, 5, none⟩ = some (.bool y.n) ∧ X.cell? ⟨b, 6, none⟩ = some (.int .i64 y.l.head) ∧ X.cell? ⟨b, 7, none⟩ = some (.slice y.pa y.l.args.length y.ca) ∧ X.cell? ⟨b, 8, none⟩ = some (.int .i64 y.r.head) ∧ X.cell? ⟨b, 9, none⟩ = some (.slice y.pb y.r.args.length y.cb))
theorem later_tw (W : World) (x y : LV) : Later (Twc W.heap.size x y) (W.alloc (TwO x y)) := fun X hX => by
  have c : ∀ i, X.cell? ⟨W.heap.size, i, none⟩ = (W.alloc (TwO x y)).cell? ⟨W.heap.size, i, none⟩ := fun i => hX.cell (p := ⟨W.heap.size, i, none⟩) (by simp)
  refine ⟨⟨?_, ?_, ?_, ?_, ?_⟩, ?_, ?_, ?_, ?_, ?_⟩ <;> rw [c] <;> simp [go_sem]
theorem Later.pushTw {F : World → Prop} {W W' : World} (k : Later F W) (hb : Below W.heap.size W W') (x y : LV) : Later (fun X => Twc W'.heap.size x y X ∧ F X) (W'.alloc (TwO x y)) :=
  (k.mv (hb.alloc hb.size _)).and (later_tw W' x y)

def LcI (g : Sg) (x y : LV) (w1 : World) (i : Value) (wr : World) : Prop :=
  Below w1.heap.size w1 wr ∧ (i = .int .i64 0 ∨ (i = .int .i64 1 ∧ errL g x.l x.r = 0) ∨ (i = .int .i64 2 ∧ errL g x.l x.r = 0 ∧ errL g y.l y.r = 0))
theorem bl_drew9 {W u : World} (h : Below W.drew.heap.size W.drew u) : Below W.heap.size W u := ⟨h.os, h.tape, h.output, h.size, h.block⟩
theorem bl_call9 {A W u : World} (h : Below A.heap.size A W) (hu : Below W.heap.size W u) : Below A.heap.size A u := h.trans (hu.mono h.size)
theorem lc_mul {g : Sg} {x y : LV} (h1 : errL g x.l x.r = 0) (h2 : errL g y.l y.r = 0) : muE g (rowL x.n x.l x.r) (rowL y.n y.l y.r) = 0 ∧ muR g (rowL x.n x.l x.r) (rowL y.n y.l y.r) = rowsT g (rowL x.n x.l x.r) (rowL y.n y.l y.r) := by
  obtain ⟨a1, a2, _⟩ := errL_ok h1
  obtain ⟨b1, b2, _⟩ := errL_ok h2
  have e1 := errF_row (n := x.n) a1 a2
  have e2 := errF_row (n := y.n) b1 b2
  unfold muE muR
  rw [if_pos e1, if_pos e1, if_pos e2]
  exact ⟨e2, rfl⟩

set_option maxRecDepth 100000 in
set_option maxHeartbeats 8000000 in
theorem litCompare_any (g : Sg) (x y : LV) (hx : x.sz) (hy : y.sz) (n₀ : Nat) (ga : Option Addr) (gc : Nat) (w : World) (hn : n₀ ≤ w.heap.size) (hG : IsSg n₀ w g ga gc) (hX : IsLv n₀ w x) (hY : IsLv n₀ w y) :
    Calls Tryz.prog 25 #[.slice ga g.length gc, x.v, y.v] w fun e w' => e = .returned (.tuple #[.int .i64 (lcR g x y), .int .i64 (lcE g x y)]) ∧ Below w.heap.size w w' := by
  have d0 := (((((((Later.below (Below.refl _ w)).and (later_lv (hY.mono hn))).and (later_lv (hX.mono hn))).and (later_sg (hG.mono hn))).pushL (Below.refl _ _) x).pushL (Below.refl _ _) y).pushTw (Below.refl _ _) x y)
  simp only [heap_alloc_size] at d0
  have C1 := Lib.hid (fun (W : World) (hG : IsSg W.heap.size W g ga gc) (hX : IsLv W.heap.size W x) => litCheck_any g x hx W.heap.size ga gc W (Nat.le_refl _) hG hX)
  have C2 := Lib.hid (fun (W : World) (hG : IsSg W.heap.size W g ga gc) (hX : IsLv W.heap.size W y) => litCheck_any g y hy W.heap.size ga gc W (Nat.le_refl _) hG hX)
  have D := Lib.hid d0
  clear d0 hG hX hY
  go_enter Tryz.func25, Tryz.ntmps25
  go_wp2
  have hs1 : (((w.alloc x.obj).alloc y.obj).alloc (TwO x y)).heap.size = w.heap.size + 3 := by simp
  generalize ((w.alloc x.obj).alloc y.obj).alloc (TwO x y) = w1 at D hs1 ⊢
  go_loopw [15] (fun i wr => LcI g x y w1 i wr) (fun i _ => 2 - (intOf i).toNat)
  case atStart => exact ⟨Below.refl _ _, .inl rfl⟩
  case round =>
    obtain ⟨hB, hk⟩ := hrel
    have hbz := hB.size
    have HB := Lib.hid hB
    have D1 := Lib.hid (D.out.mv hB)
    clear hB
    rcases hk with rfl | ⟨rfl, h1⟩ | ⟨rfl, h1, h2⟩
    · obtain ⟨⟨⟨x0, x1, x2, x3, x4⟩, _⟩, _⟩ := D1.out.now
      go_wp2_with fail
      clear x0 x1 x2 x3 x4
      have hal : Below wr.heap.size wr (wr.alloc x.obj) := (Below.refl _ _).alloc (Nat.le_refl _) _
      have D2 := Lib.hid (D1.out.mv hal)
      have HB2 := Lib.hid (HB.out.trans (hal.mono hbz))
      clear hal
      generalize wr.alloc x.obj = w2 at D2 HB2 ⊢
      refine (C1.out w2 D2.out.now.2.2.2.1 D2.out.now.2.2.2.2.1).mono ?_
      rintro e w3 ⟨rfl, hb⟩
      have HB3 := Lib.hid (HB2.out.trans (hb.mono HB2.out.size))
      have HQ := Lib.hid (D2.out.mv hb).now.2.2.2.2.2.2
      clear hb
      by_cases h : errL g x.l x.r = 0
      · have H := Lib.hid h
        rw [h]
        clear h
        go_wp2
        go_roundw
        case rel => exact ⟨HB3.out, .inr (.inl ⟨rfl, H.out⟩)⟩
        case measure => simp [intOf]
      · have HE := Lib.hid (show lcE g x y = errL g x.l x.r ∧ lcR g x y = 0 from ⟨by unfold lcE; rw [if_neg h], by unfold lcR; rw [if_neg h]⟩)
        obtain ⟨k, hk⟩ : ∃ k, errL g x.l x.r = k := ⟨_, rfl⟩
        rw [hk] at HE h ⊢
        have h2 : (k != 0) = true := by simpa using h
        clear h hk
        go_wp2
        refine bodyPost_ret (v := .tuple #[.int .i64 0, .int .i64 k]) (by simp [results, Tryz.results25, go_sem]) rfl ?_
        exact ⟨by rw [HE.out.1, HE.out.2], HQ.out⟩
    · obtain ⟨⟨_, x0, x1, x2, x3, x4⟩, _⟩ := D1.out.now
      have H1 := Lib.hid h1
      clear h1
      go_wp2_with fail
      clear x0 x1 x2 x3 x4
      have hal : Below wr.heap.size wr (wr.alloc y.obj) := (Below.refl _ _).alloc (Nat.le_refl _) _
      have D2 := Lib.hid (D1.out.mv hal)
      have HB2 := Lib.hid (HB.out.trans (hal.mono hbz))
      clear hal
      generalize wr.alloc y.obj = w2 at D2 HB2 ⊢
      refine (C2.out w2 D2.out.now.2.2.2.1 D2.out.now.2.2.2.2.2.1).mono ?_
      rintro e w3 ⟨rfl, hb⟩
      have HB3 := Lib.hid (HB2.out.trans (hb.mono HB2.out.size))
      have HQ := Lib.hid (D2.out.mv hb).now.2.2.2.2.2.2
      clear hb
      by_cases h : errL g y.l y.r = 0
      · have H := Lib.hid h
        rw [h]
        clear h
        go_wp2
        go_roundw
        case rel => exact ⟨HB3.out, .inr (.inr ⟨rfl, H1.out, H.out⟩)⟩
        case measure => simp [intOf]
      · have HE := Lib.hid (show lcE g x y = errL g y.l y.r ∧ lcR g x y = 0 from ⟨by unfold lcE; rw [if_pos H1.out], by unfold lcR; rw [if_pos H1.out, if_neg h]⟩)
        obtain ⟨k, hk⟩ : ∃ k, errL g y.l y.r = k := ⟨_, rfl⟩
        rw [hk] at HE h ⊢
        have h2 : (k != 0) = true := by simpa using h
        clear h hk
        go_wp2
        refine bodyPost_ret (v := .tuple #[.int .i64 0, .int .i64 k]) (by simp [results, Tryz.results25, go_sem]) rfl ?_
        exact ⟨by rw [HE.out.1, HE.out.2], HQ.out⟩
    · have HE := Lib.hid (show lcE g x y = 0 ∧ lcR g x y = rowsT g (rowL x.n x.l x.r) (rowL y.n y.l y.r) from ⟨by unfold lcE; rw [if_pos h1, h2], by unfold lcR; rw [if_pos h1, if_pos h2]⟩)
      have hmul := lc_mul h1 h2
      have CA := Lib.hid (fun (W : World) (hW : Below wr.heap.size wr W) => multiset_any x W (D1.out.mv hW).now.2.2.2.2.1)
      have CB := Lib.hid (fun (W : World) (hW : Below wr.heap.size wr W) => multiset_any y W (D1.out.mv hW).now.2.2.2.2.2.1)
      have CM := Lib.hid (fun (W : World) (hW : Below wr.heap.size wr W) (a1 : Option Addr) (c1 : Nat) (a2 : Option Addr) (c2 : Nat) (hA : IsArgs W.heap.size W (rowL x.n x.l x.r) a1 c1) (hB : IsArgs W.heap.size W (rowL y.n y.l y.r) a2 c2) => by
        have hl : ∀ (n : Bool) (l r : T), (rowL n l r).length ≤ 1000000 := fun n l r => by cases n <;> simp [rowL]
        have hz : ∀ (z : LV), z.sz → ∀ t ∈ rowL z.n z.l z.r, t.size ≤ 1000000000000 := fun z h t ht => by
          obtain ⟨zn, zl, zr, _, _, _, _⟩ := z
          obtain ⟨h1, h2⟩ := h
          cases zn <;> simp [rowL] at ht <;> rcases ht with rfl | rfl <;> assumption
        have := multi_any g (rowL x.n x.l x.r) (rowL y.n y.l y.r) (hl _ _ _) (hl _ _ _) (hz x hx) (hz y hy) W.heap.size ga gc a1 c1 a2 c2 W (Nat.le_refl _) (D1.out.mv hW).now.2.2.2.1 hA hB
        rw [mulV_eq, hmul.1, hmul.2] at this
        exact this)
      have KP := Lib.hid (show ∀ W, Below wr.heap.size wr W → Lc w.heap.size x W ∧ Lc (w.heap.size + 1) y W ∧ Below wr.heap.size wr W from fun W hW => ⟨(D1.out.mv hW).now.2.2.1, (D1.out.mv hW).now.2.1, hW⟩)
      have HFIN := Lib.hid (fun (W : World) (hW : Below wr.heap.size wr W) => (D1.out.mv hW).now.2.2.2.2.2.2)
      simp only [Lc] at KP
      generalize rowsT g (rowL x.n x.l x.r) (rowL y.n y.l y.r) = res at HE CM
      generalize rowL x.n x.l x.r = A at CA CM
      generalize rowL y.n y.l y.r = B at CB CM
      clear h1 h2 hmul C1 C2 D1 D HB
      obtain ⟨⟨x0, x1, x2, x3, x4⟩, ⟨y0, y1, y2, y3, y4⟩, _⟩ := KP.out wr (Below.refl _ _)
      go_wp2_with fail
      refine wp_region_noPanic ?_
      go_region_held3 (fun w' => (w'.cell? ⟨w.heap.size, 0, none⟩ = some (.bool x.n) ∧ w'.cell? ⟨w.heap.size, 1, none⟩ = some (.int .i64 x.l.head) ∧ w'.cell? ⟨w.heap.size, 2, none⟩ = some (.slice x.pa x.l.args.length x.ca) ∧ w'.cell? ⟨w.heap.size, 3, none⟩ = some (.int .i64 x.r.head) ∧ w'.cell? ⟨w.heap.size, 4, none⟩ = some (.slice x.pb x.r.args.length x.cb)) ∧ (w'.cell? ⟨w.heap.size + 1, 0, none⟩ = some (.bool y.n) ∧ w'.cell? ⟨w.heap.size + 1, 1, none⟩ = some (.int .i64 y.l.head) ∧ w'.cell? ⟨w.heap.size + 1, 2, none⟩ = some (.slice y.pa y.l.args.length y.ca) ∧ w'.cell? ⟨w.heap.size + 1, 3, none⟩ = some (.int .i64 y.r.head) ∧ w'.cell? ⟨w.heap.size + 1, 4, none⟩ = some (.slice y.pb y.r.args.length y.cb)) ∧ Below wr.heap.size wr w')
        (first
          | exact KP.out _ (Below.refl _ _)
          | exact KP.out _ (Below.refl _ _).drew
          | exact KP.out _ hB)
        (first
          | (go_at_call 56; with_reducible refine (CA.out _ (‹_ ∧ _ ∧ Below wr.heap.size wr _›.2.2)).mono ?_; rintro e u1 ⟨aA, cA, rfl, hu, LA⟩; have hB := bl_call9 (‹_ ∧ _ ∧ Below wr.heap.size wr _›.2.2) hu; try (have LB' := LB.mv (by first | exact hu | exact bl_drew9 hu)))
          | (go_at_call 56; with_reducible refine (CB.out _ (‹_ ∧ _ ∧ Below wr.heap.size wr _›.2.2)).mono ?_; rintro e u2 ⟨aB, cB, rfl, hu, LB⟩; have hB := bl_call9 (‹_ ∧ _ ∧ Below wr.heap.size wr _›.2.2) hu; try (have LA' := LA.mv (by first | exact hu | exact bl_drew9 hu)))
          | (go_at_call 55; with_reducible refine (CM.out _ (‹_ ∧ _ ∧ Below wr.heap.size wr _›.2.2) aA cA aB cB (by first | exact LA'.now | exact LA.now | exact LA' _ (Below.refl _ _).drew | exact LA _ (Below.refl _ _).drew) (by first | exact LB'.now | exact LB.now | exact LB' _ (Below.refl _ _).drew | exact LB _ (Below.refl _ _).drew)).mono ?_; rintro e u3 ⟨rfl, hu⟩; have hB := bl_call9 (‹_ ∧ _ ∧ Below wr.heap.size wr _›.2.2) hu; have hfin := hB))
      all_goals
        refine NoPanic.normal ?_
        go_wp2
        refine bodyPost_ret (v := .tuple #[.int .i64 res, .int .i64 0]) (by simp [results, Tryz.results25, go_sem]) rfl ?_
        exact ⟨by rw [HE.out.1, HE.out.2], HFIN.out _ hfin⟩

end Go.Proofs.YtbdabdjpgmnejaaGreat

/- Contracts of the document's row and Stand of literals. -/
namespace Go.Proofs.YtbdabdjpgmnejaaGreat
set_option linter.unusedVariables false
set_option linter.unusedSimpArgs false
open Go.RowKit

set_option maxRecDepth 100000 in
set_option maxHeartbeats 2000000 in
theorem rRow_any (x : LV) (w : World) (hX : IsLv w.heap.size w x) :
    Calls Tryz.prog 132 #[x.v] w fun e w' => ∃ a c, e = .returned (.slice a (rowL x.n x.l x.r).length c) ∧ Below w.heap.size w w' ∧ Later (fun X => IsArgs X.heap.size X (rowL x.n x.l x.r) a c) w' := by
  have hF : Below w.heap.size w (w.alloc x.obj) := (Below.refl _ w).alloc (Nat.le_refl _) _
  have HX := Lib.hid ((hX.below hF).mono hF.size)
  have HF := Lib.hid hF
  clear hX hF
  obtain ⟨n, l, r, pa, ca, pb, cb⟩ := x
  go_enter Tryz.func132, Tryz.ntmps132
  cases n with
  | true =>
    go_wp2
    refine bodyPost_ret (v := .slice (some ⟨w.heap.size + 1, 0, none⟩) 4 4) (by simp [results, Tryz.results132, go_sem]) rfl ?_
    exact ⟨_, _, rfl, HF.out.alloc HF.out.size _, row_four (X := w) HX.out (by simp) rfl⟩
  | false =>
    go_wp2
    refine bodyPost_ret (v := .slice (some ⟨w.heap.size + 1, 0, none⟩) 2 2) (by simp [results, Tryz.results132, go_sem]) rfl ?_
    exact ⟨_, _, rfl, HF.out.alloc HF.out.size _, row_two (X := w) HX.out (by simp) rfl⟩

theorem rowL_ok {g : Sg} {n : Bool} {l r : T} (h : errL g l r = 0) : ∀ t ∈ rowL n l r, errT g t = 0 := by
  obtain ⟨h1, h2, _⟩ := errL_ok h
  intro t ht
  cases n <;> simp [rowL] at ht <;> rcases ht with rfl | rfl <;> assumption
theorem rowL_len (n : Bool) (l r : T) : (rowL n l r).length ≤ 1000000 := by cases n <;> simp [rowL]
theorem rowL_sz {x : LV} (h : x.sz) : ∀ t ∈ rowL x.n x.l x.r, t.size ≤ 1000000000000 := by
  obtain ⟨xn, xl, xr, _, _, _, _⟩ := x
  obtain ⟨h1, h2⟩ := h
  intro t ht
  cases xn <;> simp [rowL] at ht <;> rcases ht with rfl | rfl <;> assumption

set_option maxRecDepth 100000 in
set_option maxHeartbeats 4000000 in
theorem rLitStand_any (g : Sg) (x y : LV) (hx : x.sz) (hy : y.sz) (h1 : errL g x.l x.r = 0) (h2 : errL g y.l y.r = 0) (n₀ : Nat) (ga : Option Addr) (gc : Nat) (w : World) (hn : n₀ ≤ w.heap.size) (hG : IsSg n₀ w g ga gc) (hX : IsLv n₀ w x) (hY : IsLv n₀ w y) :
    Calls Tryz.prog 104 #[.slice ga g.length gc, x.v, y.v] w fun e w' => e = .returned (.int .i64 (rowsT g (rowL x.n x.l x.r) (rowL y.n y.l y.r))) ∧ Below w.heap.size w w' := by
  have d0 := ((((((Later.below (Below.refl _ w)).and (later_lv (hY.mono hn))).and (later_lv (hX.mono hn))).and (later_sg (hG.mono hn))).pushL (Below.refl _ _) x).pushL (Below.refl _ _) y)
  simp only [heap_alloc_size] at d0
  have D1 := Lib.hid d0
  have CM0 := Lib.hid (fun (W : World) (hG : IsSg W.heap.size W g ga gc) (a1 : Option Addr) (c1 : Nat) (a2 : Option Addr) (c2 : Nat) (hA : IsArgs W.heap.size W (rowL x.n x.l x.r) a1 c1) (hB : IsArgs W.heap.size W (rowL y.n y.l y.r) a2 c2) =>
    rRows_any g (rowL x.n x.l x.r) (rowL y.n y.l y.r) (rowL_ok h1) (rowL_ok h2) (rowL_len _ _ _) (rowL_len _ _ _) (rowL_sz hx) (rowL_sz hy) W.heap.size ga gc a1 c1 a2 c2 W (Nat.le_refl _) hG hA hB)
  clear d0 hG hX hY h1 h2
  go_enter Tryz.func104, Tryz.ntmps104
  go_wp2
  generalize (w.alloc x.obj).alloc y.obj = wr at D1 ⊢
  have CA := Lib.hid (fun (W : World) (hW : Below wr.heap.size wr W) => rRow_any x W (D1.out.mv hW).now.2.2.2.1)
  have CB := Lib.hid (fun (W : World) (hW : Below wr.heap.size wr W) => rRow_any y W (D1.out.mv hW).now.2.2.2.2.1)
  have CM := Lib.hid (fun (W : World) (hW : Below wr.heap.size wr W) => CM0.out W (D1.out.mv hW).now.2.2.1)
  have KP := Lib.hid (show ∀ W, Below wr.heap.size wr W → Lc w.heap.size x W ∧ Lc (w.heap.size + 1) y W ∧ Below wr.heap.size wr W from fun W hW => ⟨(D1.out.mv hW).now.2.1, (D1.out.mv hW).now.1, hW⟩)
  have HFIN := Lib.hid (fun (W : World) (hW : Below wr.heap.size wr W) => (D1.out.mv hW).now.2.2.2.2.2)
  have HE : ∃ res, rowsT g (rowL x.n x.l x.r) (rowL y.n y.l y.r) = res := ⟨_, rfl⟩
  obtain ⟨res, hres⟩ := HE
  have HE := Lib.hid hres
  rw [hres] at CM
  clear hres
  simp only [Lc] at KP
  generalize rowL x.n x.l x.r = A at CA CM
  generalize rowL y.n y.l y.r = B at CB CM
  clear D1 CM0
  obtain ⟨⟨x0, x1, x2, x3, x4⟩, ⟨y0, y1, y2, y3, y4⟩, _⟩ := KP.out wr (Below.refl _ _)
  refine wp_region_noPanic ?_
  go_region_held3 (fun w' => (w'.cell? ⟨w.heap.size, 0, none⟩ = some (.bool x.n) ∧ w'.cell? ⟨w.heap.size, 1, none⟩ = some (.int .i64 x.l.head) ∧ w'.cell? ⟨w.heap.size, 2, none⟩ = some (.slice x.pa x.l.args.length x.ca) ∧ w'.cell? ⟨w.heap.size, 3, none⟩ = some (.int .i64 x.r.head) ∧ w'.cell? ⟨w.heap.size, 4, none⟩ = some (.slice x.pb x.r.args.length x.cb)) ∧ (w'.cell? ⟨w.heap.size + 1, 0, none⟩ = some (.bool y.n) ∧ w'.cell? ⟨w.heap.size + 1, 1, none⟩ = some (.int .i64 y.l.head) ∧ w'.cell? ⟨w.heap.size + 1, 2, none⟩ = some (.slice y.pa y.l.args.length y.ca) ∧ w'.cell? ⟨w.heap.size + 1, 3, none⟩ = some (.int .i64 y.r.head) ∧ w'.cell? ⟨w.heap.size + 1, 4, none⟩ = some (.slice y.pb y.r.args.length y.cb)) ∧ Below wr.heap.size wr w')
    (first
      | with_reducible exact KP.out _ (Below.refl _ _)
      | with_reducible exact KP.out _ (Below.refl _ _).drew
      | with_reducible exact KP.out _ hB)
    (first
      | (go_at_call 132; with_reducible refine (CA.out _ (‹_ ∧ _ ∧ Below wr.heap.size wr _›.2.2)).mono ?_; rintro e u1 ⟨aA, cA, rfl, hu, LA⟩; have hB := bl_call9 (‹_ ∧ _ ∧ Below wr.heap.size wr _›.2.2) hu; try (have LB' := LB.mv (by first | exact hu | exact bl_drew9 hu)))
      | (go_at_call 132; with_reducible refine (CB.out _ (‹_ ∧ _ ∧ Below wr.heap.size wr _›.2.2)).mono ?_; rintro e u2 ⟨aB, cB, rfl, hu, LB⟩; have hB := bl_call9 (‹_ ∧ _ ∧ Below wr.heap.size wr _›.2.2) hu; try (have LA' := LA.mv (by first | exact hu | exact bl_drew9 hu)))
      | (go_at_call 131; with_reducible refine (CM.out _ (‹_ ∧ _ ∧ Below wr.heap.size wr _›.2.2) aA cA aB cB (by first | exact LA'.now | exact LA.now | exact LA' _ (Below.refl _ _).drew | exact LA _ (Below.refl _ _).drew) (by first | exact LB'.now | exact LB.now | exact LB' _ (Below.refl _ _).drew | exact LB _ (Below.refl _ _).drew)).mono ?_; rintro e u3 ⟨rfl, hu⟩; have hB := bl_call9 (‹_ ∧ _ ∧ Below wr.heap.size wr _›.2.2) hu; have hfin := hB))
  all_goals
    refine NoPanic.normal ?_
    go_wp2
    go_ret
    exact ⟨by rw [HE.out]; rfl, HFIN.out _ hfin⟩

end Go.Proofs.YtbdabdjpgmnejaaGreat

/- Contract of Few (layer 1). -/
namespace Go.Proofs.YtbdabdjpgmnejaaGreat
set_option linter.unusedVariables false
set_option linter.unusedSimpArgs false
open Go.RowKit

/-- Few(t): at most 500 parts. -/
theorem few_any (t : T) (n₀ : Nat) (a : Option Addr) (c : Nat) (w : World) (hn : n₀ ≤ w.heap.size) (hA : IsArgs n₀ w t.args a c) :
    Calls Tryz.prog 45 #[tm t.head a t.args.length c] w fun e w' => e = .returned (.bool (decide (t.size ≤ 500))) ∧ Below w.heap.size w w' := by
  have HA := Lib.hid hA
  clear hA
  have hC : ∀ W, Below w.heap.size w W → Calls Tryz.prog 77 #[tm t.head a t.args.length c, .int .i64 500] W fun e w' => e = .returned (.int .i64 (min t.size 501 : Nat)) ∧ Below W.heap.size W w' :=
    fun W hW => count_any t.size t (Nat.le_refl _) 500 n₀ a c W (Nat.le_refl _) (Nat.le_trans hn hW.size) (HA.out.below (hW.mono hn))
  have HC := Lib.hid hC
  clear hC
  go_enter Tryz.func45, Tryz.ntmps45
  go_wp2_with fail
  refine (HC.out _ ((Below.refl _ _).alloc (Nat.le_refl _) _)).mono ?_
  rintro e w2 ⟨rfl, hB2⟩
  have HB2 := Lib.hid hB2
  clear hB2
  go_wp2
  go_ret
  refine ⟨?_, ((Below.refl _ w).alloc (Nat.le_refl _) _).trans (HB2.out.mono (by simp))⟩
  by_cases h : t.size ≤ 500
  · simp; omega
  · simp; omega

end Go.Proofs.YtbdabdjpgmnejaaGreat

/- Contracts of the document's answer: Exact and Few of literals (layer 9). -/
namespace Go.Proofs.YtbdabdjpgmnejaaGreat
set_option linter.unusedVariables false
set_option linter.unusedSimpArgs false
open Go.RowKit

set_option maxRecDepth 100000 in
set_option maxHeartbeats 2000000 in
/-- Two literals that are the same, side by side. -/
theorem exactAt_any (x y : LV) (en : y.n = x.n) (el : x.l = y.l) (er : x.r = y.r) (hx : x.sz) (n₀ : Nat) (w : World) (hn : n₀ ≤ w.heap.size) (hX : IsLv n₀ w x) (hY : IsLv n₀ w y) :
    Calls Tryz.prog 43 #[x.v, y.v] w fun e w' => e = .returned (.bool true) ∧ Below w.heap.size w w' := by
  have d0 := (((((Later.below (Below.refl _ w)).and (later_lv (hY.mono hn))).and (later_lv (hX.mono hn))).pushL (Below.refl _ _) x).pushL (Below.refl _ _) y)
  have C1 := Lib.hid (fun (W : World) (hX : IsLv W.heap.size W x) (hY : IsLv W.heap.size W y) => sameAt_any x.l y.l el hx.1 W.heap.size x.pa x.ca y.pa y.ca W (Nat.le_refl _) hX.la hY.la)
  have C2 := Lib.hid (fun (W : World) (hX : IsLv W.heap.size W x) (hY : IsLv W.heap.size W y) => sameAt_any x.r y.r er hx.2 W.heap.size x.pb x.cb y.pb y.cb W (Nat.le_refl _) hX.ra hY.ra)
  simp only [heap_alloc_size] at d0
  have D := Lib.hid d0
  have hnn : (x.n == y.n) = true := by rw [en]; simp
  clear hX hY d0 en el er
  go_enter Tryz.func43, Tryz.ntmps43
  go_wp2_with fail
  generalize (w.alloc x.obj).alloc y.obj = w1 at D ⊢
  generalize hb0 : w.heap.size = b0 at D ⊢
  have HB0 := Lib.hid hb0
  clear hb0
  refine (C1.out w1 D.out.now.2.2.1 D.out.now.2.2.2.1).mono ?_
  rintro e w2 ⟨rfl, hb⟩
  have D2 := Lib.hid (D.out.mv hb)
  clear hb D C1
  obtain ⟨⟨y0, y1, y2, y3, y4⟩, ⟨x0, x1, x2, x3, x4⟩, _⟩ := D2.out.now
  go_wp2_with fail
  refine (C2.out w2 D2.out.now.2.2.1 D2.out.now.2.2.2.1).mono ?_
  clear x0 x1 x2 x3 x4 y0 y1 y2 y3 y4
  rintro e w3 ⟨rfl, hb⟩
  have HQ := Lib.hid (D2.out.mv hb).now.2.2.2.2
  clear hb D2 C2
  go_wp2
  go_ret
  exact ⟨rfl, by rw [HB0.out]; exact HQ.out⟩

set_option maxRecDepth 100000 in
set_option maxHeartbeats 2000000 in
theorem litFew_any (x : LV) (n₀ : Nat) (w : World) (hn : n₀ ≤ w.heap.size) (hX : IsLv n₀ w x) :
    Calls Tryz.prog 14 #[x.v] w fun e w' => ∃ b : Bool, e = .returned (.bool b) ∧ (b = true → x.l.size ≤ 500 ∧ x.r.size ≤ 500) ∧ Below w.heap.size w w' := by
  have d0 := (((Later.below (Below.refl _ w)).and (later_lv (hX.mono hn))).pushL (Below.refl _ _) x)
  have C1 := Lib.hid (fun (W : World) (hX : IsLv W.heap.size W x) => few_any x.l W.heap.size x.pa x.ca W (Nat.le_refl _) hX.la)
  have C2 := Lib.hid (fun (W : World) (hX : IsLv W.heap.size W x) => few_any x.r W.heap.size x.pb x.cb W (Nat.le_refl _) hX.ra)
  have D := Lib.hid d0
  clear hX d0
  go_enter Tryz.func14, Tryz.ntmps14
  go_wp2_with fail
  generalize w.alloc x.obj = w1 at D ⊢
  generalize hb0 : w.heap.size = b0 at D ⊢
  have HB0 := Lib.hid hb0
  clear hb0
  refine (C1.out w1 D.out.now.2.1).mono ?_
  rintro e w2 ⟨rfl, hb⟩
  have D2 := Lib.hid (D.out.mv hb)
  clear hb D C1
  obtain ⟨⟨x0, x1, x2, x3, x4⟩, _⟩ := D2.out.now
  by_cases h1 : x.l.size ≤ 500
  · have H1 := Lib.hid h1
    rw [decide_eq_true h1]
    clear h1
    go_wp2_with fail
    refine (C2.out w2 D2.out.now.2.1).mono ?_
    clear x0 x1 x2 x3 x4
    rintro e w3 ⟨rfl, hb⟩
    have HQ := Lib.hid (D2.out.mv hb).now.2.2
    clear hb D2 C2
    obtain ⟨r, hr⟩ : ∃ r, decide (x.r.size ≤ 500) = r := ⟨_, rfl⟩
    rw [hr]
    have HR := Lib.hid (show r = true → x.l.size ≤ 500 ∧ x.r.size ≤ 500 from fun e => ⟨H1.out, of_decide_eq_true (by rw [hr, e])⟩)
    clear hr
    go_wp2
    go_ret
    exact ⟨r, by cases r <;> rfl, HR.out, by rw [HB0.out]; exact HQ.out⟩
  · have HQ := Lib.hid D2.out.now.2.2
    rw [decide_eq_false h1]
    clear h1
    go_wp2
    go_ret
    exact ⟨false, rfl, by simp, by rw [HB0.out]; exact HQ.out⟩
theorem sz_few {x : LV} (h : x.l.size ≤ 500 ∧ x.r.size ≤ 500) : x.sz := ⟨by omega, by omega⟩

end Go.Proofs.YtbdabdjpgmnejaaGreat

/- Contracts of the document's Exact and Check of clauses. -/
namespace Go.Proofs.YtbdabdjpgmnejaaGreat
set_option linter.unusedVariables false
set_option linter.unusedSimpArgs false
open Go.RowKit

def ExcI (n : Nat) (w : World) (i : Value) (wr : World) : Prop := ∃ k : Nat, k ≤ n ∧ i = .int .i64 k ∧ Below w.heap.size w wr
theorem t3_eq {x y : LV} (h : x.t3 = y.t3) : y.n = x.n ∧ x.l = y.l ∧ x.r = y.r := by
  simp only [LV.t3, Lt3.mk.injEq] at h
  exact ⟨h.1.symm, h.2.1, h.2.2⟩

set_option maxRecDepth 100000 in
set_option maxHeartbeats 4000000 in
theorem exact10_any (P Q : List LV) (he : t3s P = t3s Q) (hsz : ∀ x ∈ P, x.sz) (n₀ : Nat) (a : Option Addr) (c : Nat) (a' : Option Addr) (c' : Nat) (w : World) (hn : n₀ ≤ w.heap.size) (hP : IsCl n₀ w P a c) (hQ : IsCl n₀ w Q a' c') :
    Calls Tryz.prog 12 #[.slice a P.length c, .slice a' Q.length c'] w fun e w' => e = .returned (.bool true) ∧ Below w.heap.size w w' := by
  have hlc : P.length ≤ c ∧ c ≤ maxLen := ⟨hP.1, hP.2.1⟩
  unfold maxLen at hlc
  obtain ⟨hl1, hl2⟩ := hlc
  have HL := Lib.hid (show Q.length = P.length from by have := congrArg List.length he; simpa using this.symm)
  have HE := Lib.hid he
  have HSZ := Lib.hid hsz
  have HP := Lib.hid (hP.mono hn)
  have HQ := Lib.hid (hQ.mono hn)
  clear hP hQ he hsz
  rw [HL.out]
  go_enter Tryz.func12, Tryz.ntmps12
  go_wp2
  go_loopw [5] (fun i wr => ExcI P.length w i wr) (fun i _ => P.length - (intOf i).toNat)
  case atStart => exact ⟨0, Nat.zero_le _, rfl, Below.refl _ _⟩
  case round =>
    obtain ⟨k, hk, rfl, hB⟩ := hrel
    have HB := Lib.hid hB
    have hbz := hB.size
    clear hB
    by_cases hlt : k < P.length
    · obtain ⟨b, o, x, rfl, hb, hx, ⟨a0, a1, a2, a3, a4⟩, hxl⟩ := (HP.out.below HB.out).elem (i := k) hlt
      obtain ⟨b', o', y, rfl, hb', hy, ⟨b0, b1, b2, b3, b4⟩, hyl⟩ := (HQ.out.below HB.out).elem (i := k) (by rw [HL.out]; exact hlt)
      have hxy : x.t3 = y.t3 := by
        have h1 := t3s_get hx
        rw [HE.out, t3s_get hy] at h1
        exact (Option.some.inj h1).symm
      have hsx := HSZ.out x (List.mem_of_getElem? hx)
      obtain ⟨e1, e2, e3⟩ := t3_eq hxy
      have CE := Lib.hid (fun (W : World) (hW : Below wr.heap.size wr W) => exactAt_any x y e1 e2 e3 hsx W.heap.size W (Nat.le_refl _) (((hxl.mono hbz).below hW).mono hW.size) (((hyl.mono hbz).below hW).mono hW.size))
      have hk0 : (0 : Int) ≤ (k : Int) := Int.natCast_nonneg _
      have hk1 : (k : Int) < (P.length : Int) := by omega
      clear hx hy hxy e1 e2 e3 hxl hyl
      have f0 := fun d os => cell_regrown a0 d os
      have f1 := fun d os => cell_regrown a1 d os
      have f2 := fun d os => cell_regrown a2 d os
      have f3 := fun d os => cell_regrown a3 d os
      have f4 := fun d os => cell_regrown a4 d os
      have g0 := fun d os => cell_regrown b0 d os
      have g1 := fun d os => cell_regrown b1 d os
      have g2 := fun d os => cell_regrown b2 d os
      have g3 := fun d os => cell_regrown b3 d os
      have g4 := fun d os => cell_regrown b4 d os
      go_wp2
      refine wp_region_wq (by kernel_rfl) (by kernel_rfl) ?_
      repeat (first
        | (refine WQ.skip (by rfl) ?_; simp only [Act.put, List.setIfInBounds_toArray, List.set_cons_succ, List.set_cons_zero])
        | (apply WQ.two (by rfl); (intro w' hw'; obtain ⟨pq, rfl⟩ := hw'; go_simp; first | (with_reducible exact Calls.regrown_of (CE.out _ (below_regrown _ _ _))) | exact rfl); simp only [Act.put, List.setIfInBounds_toArray, List.set_cons_succ, List.set_cons_zero]))
      refine WQ.nil ?_
      intro _ hw'
      obtain ⟨⟨dq, osq⟩, hw''⟩ := hw'
      subst hw''
      go_wp2
      go_roundw
      case rel => exact ⟨k + 1, by omega, by go_num, HB.out.trans ((below_regrown wr dq osq).mono hbz)⟩
      case measure => simp [intOf]; omega
    · obtain rfl : k = P.length := by omega
      go_wp2
      go_ret
      exact ⟨rfl, HB.out⟩

def Ck10I (g : Sg) (P : List LV) (w : World) (i : Value) (wr : World) : Prop := ∃ k : Nat, k ≤ P.length ∧ i = .int .i64 k ∧ errs g (t3s P) = errs g (t3s (P.drop k)) ∧ Below w.heap.size w wr
theorem errs_drop {g : Sg} {P : List LV} {k : Nat} {x : LV} (h : P[k]? = some x) : errs g (t3s (P.drop k)) = if errL g x.l x.r ≠ 0 then errL g x.l x.r else errs g (t3s (P.drop (k + 1))) := by
  obtain ⟨hkl, hke⟩ := List.getElem?_eq_some_iff.1 h
  rw [List.drop_eq_getElem_cons hkl, hke]
  rfl

set_option maxRecDepth 100000 in
set_option maxHeartbeats 4000000 in
theorem check10_any (g : Sg) (P : List LV) (hsz : ∀ x ∈ P, x.sz) (n₀ : Nat) (ga : Option Addr) (gc : Nat) (a : Option Addr) (c : Nat) (w : World) (hn : n₀ ≤ w.heap.size) (hG : IsSg n₀ w g ga gc) (hP : IsCl n₀ w P a c) :
    Calls Tryz.prog 26 #[.slice ga g.length gc, .slice a P.length c] w fun e w' => e = .returned (.int .i64 (errC g (t3s P))) ∧ Below w.heap.size w w' := by
  have hlc : P.length ≤ c ∧ c ≤ maxLen := ⟨hP.1, hP.2.1⟩
  unfold maxLen at hlc
  obtain ⟨hl1, hl2⟩ := hlc
  have HSZ := Lib.hid hsz
  have HP := Lib.hid (hP.mono hn)
  have HG := Lib.hid (hG.mono hn)
  clear hP hG hsz
  go_enter Tryz.func26, Tryz.ntmps26
  go_wp2_with fail
  refine (r7Right_any g w.heap.size ga gc w (Nat.le_refl _) HG.out).mono ?_
  rintro e w2 ⟨rfl, hb⟩
  have HB2 := Lib.hid hb
  have hbz2 := hb.size
  clear hb
  by_cases hr : rightG g = true
  case neg =>
    have HE := Lib.hid (show errC g (t3s P) = 1 from by unfold errC; rw [if_neg hr])
    rw [show rightG g = false from by simpa using hr]
    clear hr
    go_wp2
    go_ret
    exact ⟨by rw [HE.out]; rfl, HB2.out⟩
  have HR := Lib.hid hr
  rw [hr]
  clear hr
  by_cases hl : 32 < P.length
  · have HE := Lib.hid (show errC g (t3s P) = 2 from by unfold errC; rw [if_pos HR.out, if_pos (by simpa using hl)])
    have hl' : 32 < (P.length : Int) := by omega
    go_wp2
    go_ret
    exact ⟨by rw [HE.out]; rfl, HB2.out⟩
  have HE := Lib.hid (show errC g (t3s P) = errs g (t3s P) from by unfold errC; rw [if_pos HR.out, if_neg (by simpa using hl)])
  have hl' : decide (32 < (P.length : Int)) = false := decide_eq_false (by omega)
  go_wp2
  go_loopw [5, 6] (fun i _ wr => Ck10I g P w i wr) (fun i _ _ => P.length - (intOf i).toNat)
  case atStart => exact ⟨0, Nat.zero_le _, rfl, rfl, HB2.out⟩
  case round =>
    obtain ⟨k, hk, rfl, he, hB⟩ := hrel
    have HB := Lib.hid hB
    have hbz := hB.size
    have HED := Lib.hid he
    clear hB he
    by_cases hlt : k < P.length
    · obtain ⟨b, o, x, rfl, hb, hx, ⟨a0, a1, a2, a3, a4⟩, hxl⟩ := (HP.out.below HB.out).elem (i := k) hlt
      have hsx := HSZ.out x (List.mem_of_getElem? hx)
      have CK := Lib.hid (rLitCheck_any g x hsx wr.heap.size ga gc wr (Nat.le_refl _) ((HG.out.below HB.out).mono hbz) (hxl.mono hbz))
      have HX := Lib.hid (HED.out.trans (errs_drop hx))
      have hk0 : (0 : Int) ≤ (k : Int) := Int.natCast_nonneg _
      have hk1 : (k : Int) < (P.length : Int) := by omega
      clear hx hxl
      go_wp2_with fail
      refine CK.out.mono ?_
      rintro e w3 ⟨rfl, hb3⟩
      have HB3 := Lib.hid (HB.out.trans (hb3.mono hbz))
      clear hb3 a0 a1 a2 a3 a4
      by_cases h : errL g x.l x.r = 0
      · have H := Lib.hid h
        rw [h]
        clear h
        go_wp2
        go_roundw
        case rel => exact ⟨k + 1, by omega, by go_num, by rw [HX.out, if_neg (fun e => e H.out)], HB3.out⟩
        case measure => simp [intOf]; omega
      · have HF := Lib.hid (show errC g (t3s P) = errL g x.l x.r from by rw [HE.out, HX.out, if_pos h])
        obtain ⟨m, hm⟩ : ∃ m, errL g x.l x.r = m := ⟨_, rfl⟩
        rw [hm] at h HF ⊢
        have h2 : (m != 0) = true := by simpa using h
        clear h hm
        go_wp2
        go_ret
        exact ⟨by rw [HF.out]; rfl, HB3.out⟩
    · obtain rfl : k = P.length := by omega
      have HF := Lib.hid (show errC g (t3s P) = 0 from by rw [HE.out, HED.out, List.drop_of_length_le (Nat.le_refl _)]; rfl)
      go_wp2
      go_ret
      exact ⟨by rw [HF.out]; rfl, HB.out⟩

end Go.Proofs.YtbdabdjpgmnejaaGreat
