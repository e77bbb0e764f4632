/- QBv: joined of Sdc, Lcm, Rst, RAp. -/
import Derived.Test.YtpncmdlbmnmahaaGreatQBp
import Derived.Test.YtpncmdlbmnmahaaGreatQBd
import Derived.Test.YtpncmdlbmnmahaaGreatQBr
import Derived.Test.YtpncmdlbmnmahaaGreatQBs
import Derived.Test.YtpncmdlbmnmahaaGreatQBc
import Derived.Test.YtpncmdlbmnmahaaGreatQBe
import Derived.Test.YtpncmdlbmnmahaaGreatQBn
import Derived.Test.YtpncmdlbmnmahaaGreatQBj
import Derived.Test.YtpncmdlbmnmahaaGreatQBu
import Derived.Test.YtpncmdlbmnmahaaGreatQBm
import Derived.Test.YtpncmdlbmnmahaaGreatQBf
import Derived.Laws.MakeOwn
import Derived.Lib.SliceRun
import Derived.Laws.OwnMore
import Derived.Deep.RegionLaw
import Derived.Shelf.RegionOpenPlain
import Derived.StillTailTactics
import Derived.Deep.AppendLies
import Derived.Deep.RegionHeld3
import Derived.Deep.CutRange
import Derived.BigQuiet
import Derived.Deep.QuietTactic
import Derived.Test.YtpncmdlbmnmahaaGreatQBo
/- Contracts of clause's sides, Vars, Check. -/
namespace Go.Proofs.YtpncmdlbmnmahaaGreat
set_option linter.unusedVariables false
set_option linter.unusedSimpArgs false
open Go.RowKit
/-! ### sides -/
/-! ### Vars -/
/-! ### Check -/
set_option maxRecDepth 100000 in
set_option maxHeartbeats 4000000 in
theorem cCheck_any (g : Sg) (P : List LV) (hsz : ∀ x ∈ P, x.sz) (n₀ : Nat) (ga : Option Addr) (gc : Nat) (a : Option Addr) (c : Nat) (w : World) (hn : n₀ ≤ w.heap.size) (hG : IsSg n₀ w g ga gc) (hP : IsCl n₀ w P a c) :
    Calls Tryz.prog 17 #[.slice ga g.length gc, .slice a P.length c] w fun e w' => e = .returned (.int .i64 (errC g (t3s P))) ∧ Below w.heap.size w w' := by
  have hlc : P.length ≤ c ∧ c ≤ maxLen := ⟨hP.1, hP.2.1⟩
  unfold maxLen at hlc
  obtain ⟨hl1, hl2⟩ := hlc
  have HSZ := Lib.hid hsz
  have HP := Lib.hid (hP.mono hn)
  have HG := Lib.hid (hG.mono hn)
  clear hP hG hsz
  go_enter Tryz.func17, Tryz.ntmps17
  go_wp2_with fail
  refine (sgCheck_any g w.heap.size ga gc w (Nat.le_refl _) HG.out).mono ?_
  rintro e w2 ⟨rfl, hb⟩
  have HB2 := Lib.hid hb
  have hbz2 := hb.size
  clear hb
  by_cases hr : rightG g = true
  case neg =>
    have HE := Lib.hid (show errC g (t3s P) = 1 from by unfold errC; rw [if_neg hr])
    rw [show errG g = 1 from by unfold errG; rw [if_neg hr]]
    clear hr
    go_wp2
    go_ret
    exact ⟨by rw [HE.out]; rfl, HB2.out⟩
  have HR := Lib.hid hr
  rw [show errG g = 0 from by unfold errG; rw [if_pos hr]]
  clear hr
  by_cases hl : 32 < P.length
  · have HE := Lib.hid (show errC g (t3s P) = 2 from by unfold errC; rw [if_pos HR.out, if_pos (by simpa using hl)])
    have hl' : 32 < (P.length : Int) := by omega
    go_wp2
    go_ret
    exact ⟨by rw [HE.out]; rfl, HB2.out⟩
  have HE := Lib.hid (show errC g (t3s P) = errs g (t3s P) from by unfold errC; rw [if_pos HR.out, if_neg (by simpa using hl)])
  have hl' : decide (32 < (P.length : Int)) = false := decide_eq_false (by omega)
  go_wp2
  go_loopw [19] (fun i wr => Ck10I g P w i wr) (fun i _ => P.length - (intOf i).toNat)
  case atStart => exact ⟨0, Nat.zero_le _, rfl, rfl, HB2.out⟩
  case round =>
    obtain ⟨k, hk, rfl, he, hB⟩ := hrel
    have HB := Lib.hid hB
    have hbz := hB.size
    have HED := Lib.hid he
    clear hB he
    by_cases hlt : k < P.length
    · obtain ⟨b, o, x, rfl, hb, hx, ⟨a0, a1, a2, a3, a4⟩, hxl⟩ := (HP.out.below HB.out).elem (i := k) hlt
      have hsx := HSZ.out x (List.mem_of_getElem? hx)
      have hbw : b < wr.heap.size := by omega
      obtain ⟨W2, hW2⟩ : ∃ W2, wr.alloc x.obj = W2 := ⟨_, rfl⟩
      have hs2 : W2.heap.size = wr.heap.size + 1 := by rw [← hW2]; simp
      have hF2 : Below wr.heap.size wr W2 := by rw [← hW2]; exact (Below.refl _ wr).alloc (Nat.le_refl _) _
      obtain ⟨l0, l1, l2, l3, l4⟩ := (show Later (Lc wr.heap.size x) W2 from by rw [← hW2]; exact later_lc wr x).now
      have CK := Lib.hid (litCheck_any g x hsx w.heap.size ga gc W2 (by omega) (HG.out.below (HB.out.trans (hF2.mono hbz))) (hxl.below (hF2.mono hbz)))
      have HX := Lib.hid (HED.out.trans (errs_drop hx))
      have HF2 := Lib.hid (HB.out.trans (hF2.mono hbz))
      have hk0 : (0 : Int) ≤ (k : Int) := Int.natCast_nonneg _
      have hk1 : (k : Int) < (P.length : Int) := by omega
      clear hx hxl hF2
      go_wp2_with fail
      refine CK.out.mono ?_
      rintro e w3 ⟨rfl, hb3⟩
      have HB3 := Lib.hid (HF2.out.trans (hb3.mono HF2.out.size))
      clear hb3 a0 a1 a2 a3 a4
      by_cases h : errL g x.l x.r = 0
      · have H := Lib.hid h
        rw [h]
        clear h
        go_wp2
        go_roundw
        case rel => exact ⟨k + 1, by omega, by go_num, by rw [HX.out, if_neg (fun e => e H.out)], HB3.out⟩
        case measure => simp [intOf]; omega
      · have HF := Lib.hid (show errC g (t3s P) = errL g x.l x.r from by rw [HE.out, HX.out, if_pos h])
        obtain ⟨m, hm⟩ : ∃ m, errL g x.l x.r = m := ⟨_, rfl⟩
        rw [hm] at h HF ⊢
        have h2 : (m != 0) = true := by simpa using h
        clear h hm
        go_wp2
        go_ret
        exact ⟨by rw [HF.out]; rfl, HB3.out⟩
    · obtain rfl : k = P.length := by omega
      have HF := Lib.hid (show errC g (t3s P) = 0 from by rw [HE.out, HED.out, List.drop_of_length_le (Nat.le_refl _)]; rfl)
      go_wp2
      go_ret
      exact ⟨by rw [HF.out]; rfl, HB.out⟩
end Go.Proofs.YtpncmdlbmnmahaaGreat

/- Contract of lit's Compare. -/
namespace Go.Proofs.YtpncmdlbmnmahaaGreat
set_option linter.unusedVariables false
set_option linter.unusedSimpArgs false
open Go.RowKit
/-- What Compare of literals answers: a number and an error. -/
def lcE (g : Sg) (x y : LV) : Int := if errL g x.l x.r = 0 then errL g y.l y.r else errL g x.l x.r
def lcR (g : Sg) (x y : LV) : Int := if errL g x.l x.r = 0 then (if errL g y.l y.r = 0 then rowsT g (rowL x.n x.l x.r) (rowL y.n y.l y.r) else 0) else 0
theorem row_two {b : Nat} {x : LV} {X : World} {obj : Obj} {W : World} (h : IsLv W.heap.size W x) (hb : W.heap.size = b) (ho : obj = .cells #[.int .i64 x.l.head, .slice x.pa x.l.args.length x.ca, .int .i64 x.r.head, .slice x.pb x.r.args.length x.cb] 42) :
    Later (fun X => IsArgs X.heap.size X [x.l, x.r] (some ⟨b, 0, none⟩) 2) (W.alloc obj) := by
  subst hb
  subst ho
  have hal : Below W.heap.size W (W.alloc (.cells #[.int .i64 x.l.head, .slice x.pa x.l.args.length x.ca, .int .i64 x.r.head, .slice x.pb x.r.args.length x.cb] 42)) := (Below.refl _ _).alloc (Nat.le_refl _) _
  intro X hX
  have hx := (h.below hal).mono hal.size
  have hx := (hx.below hX).mono hX.size
  obtain ⟨p, q⟩ := (later_cs W #[.int .i64 x.l.head, .slice x.pa x.l.args.length x.ca, .int .i64 x.r.head, .slice x.pb x.r.args.length x.cb] 42) X hX
  exact ⟨by simp, by simp [maxLen], .inr ⟨W.heap.size, 0, rfl, p, isT_iff.2 ⟨h.lw, q 0 _ rfl, _, _, q 1 _ rfl, hx.la⟩, isT_iff.2 ⟨h.rw, q 2 _ rfl, _, _, q 3 _ rfl, hx.ra⟩, trivial⟩⟩
theorem row_four {b : Nat} {x : LV} {X : World} {obj : Obj} {W : World} (h : IsLv W.heap.size W x) (hb : W.heap.size = b) (ho : obj = .cells #[.int .i64 x.l.head, .slice x.pa x.l.args.length x.ca, .int .i64 x.l.head, .slice x.pa x.l.args.length x.ca, .int .i64 x.r.head, .slice x.pb x.r.args.length x.cb, .int .i64 x.r.head, .slice x.pb x.r.args.length x.cb] 42) :
    Later (fun X => IsArgs X.heap.size X [x.l, x.l, x.r, x.r] (some ⟨b, 0, none⟩) 4) (W.alloc obj) := by
  subst hb
  subst ho
  have hal : Below W.heap.size W (W.alloc (.cells #[.int .i64 x.l.head, .slice x.pa x.l.args.length x.ca, .int .i64 x.l.head, .slice x.pa x.l.args.length x.ca, .int .i64 x.r.head, .slice x.pb x.r.args.length x.cb, .int .i64 x.r.head, .slice x.pb x.r.args.length x.cb] 42)) := (Below.refl _ _).alloc (Nat.le_refl _) _
  intro X hX
  have hx := (h.below hal).mono hal.size
  have hx := (hx.below hX).mono hX.size
  obtain ⟨p, q⟩ := (later_cs W #[.int .i64 x.l.head, .slice x.pa x.l.args.length x.ca, .int .i64 x.l.head, .slice x.pa x.l.args.length x.ca, .int .i64 x.r.head, .slice x.pb x.r.args.length x.cb, .int .i64 x.r.head, .slice x.pb x.r.args.length x.cb] 42) X hX
  exact ⟨by simp, by simp [maxLen], .inr ⟨W.heap.size, 0, rfl, p, isT_iff.2 ⟨h.lw, q 0 _ rfl, _, _, q 1 _ rfl, hx.la⟩, isT_iff.2 ⟨h.lw, q 2 _ rfl, _, _, q 3 _ rfl, hx.la⟩, isT_iff.2 ⟨h.rw, q 4 _ rfl, _, _, q 5 _ rfl, hx.ra⟩, isT_iff.2 ⟨h.rw, q 6 _ rfl, _, _, q 7 _ rfl, hx.ra⟩, trivial⟩⟩
set_option maxRecDepth 100000 in
set_option maxHeartbeats 2000000 in
theorem multiset_any (x : LV) (w : World) (hX : IsLv w.heap.size w x) :
    Calls Tryz.prog 37 #[x.v] w fun e w' => ∃ a c, e = .returned (.slice a (rowL x.n x.l x.r).length c) ∧ Below w.heap.size w w' ∧ Later (fun X => IsArgs X.heap.size X (rowL x.n x.l x.r) a c) w' := by
  have hF : Below w.heap.size w (w.alloc x.obj) := (Below.refl _ w).alloc (Nat.le_refl _) _
  have HX := Lib.hid ((hX.below hF).mono hF.size)
  have HF := Lib.hid hF
  clear hX hF
  obtain ⟨n, l, r, pa, ca, pb, cb⟩ := x
  go_enter Tryz.func37, Tryz.ntmps37
  cases n with
  | true =>
    go_wp2
    refine bodyPost_ret (v := .slice (some ⟨w.heap.size + 1, 0, none⟩) 4 4) (by simp [results, Tryz.results37, go_sem]) rfl ?_
    exact ⟨_, _, rfl, HF.out.alloc HF.out.size _, row_four (X := w) HX.out (by simp) rfl⟩
  | false =>
    go_wp2
    refine bodyPost_ret (v := .slice (some ⟨w.heap.size + 1, 0, none⟩) 2 2) (by simp [results, Tryz.results37, go_sem]) rfl ?_
    exact ⟨_, _, rfl, HF.out.alloc HF.out.size _, row_two (X := w) HX.out (by simp) rfl⟩
/-- Two literals in a row. -/
abbrev TwO (x y : LV) : Obj := .cells #[.bool x.n, .int .i64 x.l.head, .slice x.pa x.l.args.length x.ca, .int .i64 x.r.head, .slice x.pb x.r.args.length x.cb, .bool y.n, .int .i64 y.l.head, .slice y.pa y.l.args.length y.ca, .int .i64 y.r.head, .slice y.pb y.r.args.length y.cb] 44
def Twc (b : Nat) (x y : LV) (X : World) : Prop :=
  (X.cell? ⟨b, 0, none⟩ = some (.bool x.n) ∧ X.cell? ⟨b, 1, none⟩ = some (.int .i64 x.l.head) ∧ X.cell? ⟨b, 2, none⟩ = some (.slice x.pa x.l.args.length x.ca) ∧ X.cell? ⟨b, 3, none⟩ = some (.int .i64 x.r.head) ∧ X.cell? ⟨b, 4, none⟩ = some (.slice x.pb x.r.args.length x.cb)) ∧
  (X.cell? ⟨b, 5, none⟩ = some (.bool y.n) ∧ X.cell? ⟨b, 6, none⟩ = some (.int .i64 y.l.head) ∧ X.cell? ⟨b, 7, none⟩ = some (.slice y.pa y.l.args.length y.ca) ∧ X.cell? ⟨b, 8, none⟩ = some (.int .i64 y.r.head) ∧ X.cell? ⟨b, 9, none⟩ = some (.slice y.pb y.r.args.length y.cb))
theorem later_tw (W : World) (x y : LV) : Later (Twc W.heap.size x y) (W.alloc (TwO x y)) := fun X hX => by
  have c : ∀ i, X.cell? ⟨W.heap.size, i, none⟩ = (W.alloc (TwO x y)).cell? ⟨W.heap.size, i, none⟩ := fun i => hX.cell (p := ⟨W.heap.size, i, none⟩) (by simp)
  refine ⟨⟨?_, ?_, ?_, ?_, ?_⟩, ?_, ?_, ?_, ?_, ?_⟩ <;> rw [c] <;> simp [go_sem]
theorem Later.pushTw {F : World → Prop} {W W' : World} (k : Later F W) (hb : Below W.heap.size W W') (x y : LV) : Later (fun X => Twc W'.heap.size x y X ∧ F X) (W'.alloc (TwO x y)) :=
  (k.mv (hb.alloc hb.size _)).and (later_tw W' x y)
def LcI (g : Sg) (x y : LV) (w1 : World) (i : Value) (wr : World) : Prop :=
  Below w1.heap.size w1 wr ∧ (i = .int .i64 0 ∨ (i = .int .i64 1 ∧ errL g x.l x.r = 0) ∨ (i = .int .i64 2 ∧ errL g x.l x.r = 0 ∧ errL g y.l y.r = 0))
theorem bl_drew9 {W u : World} (h : Below W.drew.heap.size W.drew u) : Below W.heap.size W u := ⟨h.os, h.tape, h.output, h.size, h.block⟩
theorem bl_call9 {A W u : World} (h : Below A.heap.size A W) (hu : Below W.heap.size W u) : Below A.heap.size A u := h.trans (hu.mono h.size)
theorem lc_mul {g : Sg} {x y : LV} (h1 : errL g x.l x.r = 0) (h2 : errL g y.l y.r = 0) : muE g (rowL x.n x.l x.r) (rowL y.n y.l y.r) = 0 ∧ muR g (rowL x.n x.l x.r) (rowL y.n y.l y.r) = rowsT g (rowL x.n x.l x.r) (rowL y.n y.l y.r) := by
  obtain ⟨a1, a2, _⟩ := errL_ok h1
  obtain ⟨b1, b2, _⟩ := errL_ok h2
  have e1 := errF_row (n := x.n) a1 a2
  have e2 := errF_row (n := y.n) b1 b2
  unfold muE muR
  rw [if_pos e1, if_pos e1, if_pos e2]
  exact ⟨e2, rfl⟩
set_option maxRecDepth 100000 in
set_option maxHeartbeats 8000000 in
theorem litCompare_any (g : Sg) (x y : LV) (hx : x.sz) (hy : y.sz) (n₀ : Nat) (ga : Option Addr) (gc : Nat) (w : World) (hn : n₀ ≤ w.heap.size) (hG : IsSg n₀ w g ga gc) (hX : IsLv n₀ w x) (hY : IsLv n₀ w y) :
    Calls Tryz.prog 18 #[.slice ga g.length gc, x.v, y.v] w fun e w' => e = .returned (.tuple #[.int .i64 (lcR g x y), .int .i64 (lcE g x y)]) ∧ Below w.heap.size w w' := by
  have d0 := (((((((Later.below (Below.refl _ w)).and (later_lv (hY.mono hn))).and (later_lv (hX.mono hn))).and (later_sg (hG.mono hn))).pushL (Below.refl _ _) x).pushL (Below.refl _ _) y).pushTw (Below.refl _ _) x y)
  simp only [heap_alloc_size] at d0
  have C1 := Lib.hid (fun (W : World) (hG : IsSg W.heap.size W g ga gc) (hX : IsLv W.heap.size W x) => litCheck_any g x hx W.heap.size ga gc W (Nat.le_refl _) hG hX)
  have C2 := Lib.hid (fun (W : World) (hG : IsSg W.heap.size W g ga gc) (hX : IsLv W.heap.size W y) => litCheck_any g y hy W.heap.size ga gc W (Nat.le_refl _) hG hX)
  have D := Lib.hid d0
  clear d0 hG hX hY
  go_enter Tryz.func18, Tryz.ntmps18
  go_wp2
  have hs1 : (((w.alloc x.obj).alloc y.obj).alloc (TwO x y)).heap.size = w.heap.size + 3 := by simp
  generalize ((w.alloc x.obj).alloc y.obj).alloc (TwO x y) = w1 at D hs1 ⊢
  go_loopw [15] (fun i wr => LcI g x y w1 i wr) (fun i _ => 2 - (intOf i).toNat)
  case atStart => exact ⟨Below.refl _ _, .inl rfl⟩
  case round =>
    obtain ⟨hB, hk⟩ := hrel
    have hbz := hB.size
    have HB := Lib.hid hB
    have D1 := Lib.hid (D.out.mv hB)
    clear hB
    rcases hk with rfl | ⟨rfl, h1⟩ | ⟨rfl, h1, h2⟩
    · obtain ⟨⟨⟨x0, x1, x2, x3, x4⟩, _⟩, _⟩ := D1.out.now
      go_wp2_with fail
      clear x0 x1 x2 x3 x4
      have hal : Below wr.heap.size wr (wr.alloc x.obj) := (Below.refl _ _).alloc (Nat.le_refl _) _
      have D2 := Lib.hid (D1.out.mv hal)
      have HB2 := Lib.hid (HB.out.trans (hal.mono hbz))
      clear hal
      generalize wr.alloc x.obj = w2 at D2 HB2 ⊢
      refine (C1.out w2 D2.out.now.2.2.2.1 D2.out.now.2.2.2.2.1).mono ?_
      rintro e w3 ⟨rfl, hb⟩
      have HB3 := Lib.hid (HB2.out.trans (hb.mono HB2.out.size))
      have HQ := Lib.hid (D2.out.mv hb).now.2.2.2.2.2.2
      clear hb
      by_cases h : errL g x.l x.r = 0
      · have H := Lib.hid h
        rw [h]
        clear h
        go_wp2
        go_roundw
        case rel => exact ⟨HB3.out, .inr (.inl ⟨rfl, H.out⟩)⟩
        case measure => simp [intOf]
      · have HE := Lib.hid (show lcE g x y = errL g x.l x.r ∧ lcR g x y = 0 from ⟨by unfold lcE; rw [if_neg h], by unfold lcR; rw [if_neg h]⟩)
        obtain ⟨k, hk⟩ : ∃ k, errL g x.l x.r = k := ⟨_, rfl⟩
        rw [hk] at HE h ⊢
        have h2 : (k != 0) = true := by simpa using h
        clear h hk
        go_wp2
        refine bodyPost_ret (v := .tuple #[.int .i64 0, .int .i64 k]) (by simp [results, Tryz.results18, go_sem]) rfl ?_
        exact ⟨by rw [HE.out.1, HE.out.2], HQ.out⟩
    · obtain ⟨⟨_, x0, x1, x2, x3, x4⟩, _⟩ := D1.out.now
      have H1 := Lib.hid h1
      clear h1
      go_wp2_with fail
      clear x0 x1 x2 x3 x4
      have hal : Below wr.heap.size wr (wr.alloc y.obj) := (Below.refl _ _).alloc (Nat.le_refl _) _
      have D2 := Lib.hid (D1.out.mv hal)
      have HB2 := Lib.hid (HB.out.trans (hal.mono hbz))
      clear hal
      generalize wr.alloc y.obj = w2 at D2 HB2 ⊢
      refine (C2.out w2 D2.out.now.2.2.2.1 D2.out.now.2.2.2.2.2.1).mono ?_
      rintro e w3 ⟨rfl, hb⟩
      have HB3 := Lib.hid (HB2.out.trans (hb.mono HB2.out.size))
      have HQ := Lib.hid (D2.out.mv hb).now.2.2.2.2.2.2
      clear hb
      by_cases h : errL g y.l y.r = 0
      · have H := Lib.hid h
        rw [h]
        clear h
        go_wp2
        go_roundw
        case rel => exact ⟨HB3.out, .inr (.inr ⟨rfl, H1.out, H.out⟩)⟩
        case measure => simp [intOf]
      · have HE := Lib.hid (show lcE g x y = errL g y.l y.r ∧ lcR g x y = 0 from ⟨by unfold lcE; rw [if_pos H1.out], by unfold lcR; rw [if_pos H1.out, if_neg h]⟩)
        obtain ⟨k, hk⟩ : ∃ k, errL g y.l y.r = k := ⟨_, rfl⟩
        rw [hk] at HE h ⊢
        have h2 : (k != 0) = true := by simpa using h
        clear h hk
        go_wp2
        refine bodyPost_ret (v := .tuple #[.int .i64 0, .int .i64 k]) (by simp [results, Tryz.results18, go_sem]) rfl ?_
        exact ⟨by rw [HE.out.1, HE.out.2], HQ.out⟩
    · have HE := Lib.hid (show lcE g x y = 0 ∧ lcR g x y = rowsT g (rowL x.n x.l x.r) (rowL y.n y.l y.r) from ⟨by unfold lcE; rw [if_pos h1, h2], by unfold lcR; rw [if_pos h1, if_pos h2]⟩)
      have hmul := lc_mul h1 h2
      have CA := Lib.hid (fun (W : World) (hW : Below wr.heap.size wr W) => multiset_any x W (D1.out.mv hW).now.2.2.2.2.1)
      have CB := Lib.hid (fun (W : World) (hW : Below wr.heap.size wr W) => multiset_any y W (D1.out.mv hW).now.2.2.2.2.2.1)
      have CM := Lib.hid (fun (W : World) (hW : Below wr.heap.size wr W) (a1 : Option Addr) (c1 : Nat) (a2 : Option Addr) (c2 : Nat) (hA : IsArgs W.heap.size W (rowL x.n x.l x.r) a1 c1) (hB : IsArgs W.heap.size W (rowL y.n y.l y.r) a2 c2) => by
        have hl : ∀ (n : Bool) (l r : T), (rowL n l r).length ≤ 1000000 := fun n l r => by cases n <;> simp [rowL]
        have hz : ∀ (z : LV), z.sz → ∀ t ∈ rowL z.n z.l z.r, t.size ≤ 1000000000000 := fun z h t ht => by
          obtain ⟨zn, zl, zr, _, _, _, _⟩ := z
          obtain ⟨h1, h2⟩ := h
          cases zn <;> simp [rowL] at ht <;> rcases ht with rfl | rfl <;> assumption
        have := multi_any g (rowL x.n x.l x.r) (rowL y.n y.l y.r) (hl _ _ _) (hl _ _ _) (hz x hx) (hz y hy) W.heap.size ga gc a1 c1 a2 c2 W (Nat.le_refl _) (D1.out.mv hW).now.2.2.2.1 hA hB
        rw [mulV_eq, hmul.1, hmul.2] at this
        exact this)
      have KP := Lib.hid (show ∀ W, Below wr.heap.size wr W → Lc w.heap.size x W ∧ Lc (w.heap.size + 1) y W ∧ Below wr.heap.size wr W from fun W hW => ⟨(D1.out.mv hW).now.2.2.1, (D1.out.mv hW).now.2.1, hW⟩)
      have HFIN := Lib.hid (fun (W : World) (hW : Below wr.heap.size wr W) => (D1.out.mv hW).now.2.2.2.2.2.2)
      simp only [Lc] at KP
      generalize rowsT g (rowL x.n x.l x.r) (rowL y.n y.l y.r) = res at HE CM
      generalize rowL x.n x.l x.r = A at CA CM
      generalize rowL y.n y.l y.r = B at CB CM
      clear h1 h2 hmul C1 C2 D1 D HB
      obtain ⟨⟨x0, x1, x2, x3, x4⟩, ⟨y0, y1, y2, y3, y4⟩, _⟩ := KP.out wr (Below.refl _ _)
      go_wp2_with fail
      refine wp_region_noPanic ?_
      go_region_held3 (fun w' => (w'.cell? ⟨w.heap.size, 0, none⟩ = some (.bool x.n) ∧ w'.cell? ⟨w.heap.size, 1, none⟩ = some (.int .i64 x.l.head) ∧ w'.cell? ⟨w.heap.size, 2, none⟩ = some (.slice x.pa x.l.args.length x.ca) ∧ w'.cell? ⟨w.heap.size, 3, none⟩ = some (.int .i64 x.r.head) ∧ w'.cell? ⟨w.heap.size, 4, none⟩ = some (.slice x.pb x.r.args.length x.cb)) ∧ (w'.cell? ⟨w.heap.size + 1, 0, none⟩ = some (.bool y.n) ∧ w'.cell? ⟨w.heap.size + 1, 1, none⟩ = some (.int .i64 y.l.head) ∧ w'.cell? ⟨w.heap.size + 1, 2, none⟩ = some (.slice y.pa y.l.args.length y.ca) ∧ w'.cell? ⟨w.heap.size + 1, 3, none⟩ = some (.int .i64 y.r.head) ∧ w'.cell? ⟨w.heap.size + 1, 4, none⟩ = some (.slice y.pb y.r.args.length y.cb)) ∧ Below wr.heap.size wr w')
        (first
          | exact KP.out _ (Below.refl _ _)
          | exact KP.out _ (Below.refl _ _).drew
          | exact KP.out _ hB)
        (first
          | (go_at_call 37; with_reducible refine (CA.out _ (‹_ ∧ _ ∧ Below wr.heap.size wr _›.2.2)).mono ?_; rintro e u1 ⟨aA, cA, rfl, hu, LA⟩; have hB := bl_call9 (‹_ ∧ _ ∧ Below wr.heap.size wr _›.2.2) hu; try (have LB' := LB.mv (by first | exact hu | exact bl_drew9 hu)))
          | (go_at_call 37; with_reducible refine (CB.out _ (‹_ ∧ _ ∧ Below wr.heap.size wr _›.2.2)).mono ?_; rintro e u2 ⟨aB, cB, rfl, hu, LB⟩; have hB := bl_call9 (‹_ ∧ _ ∧ Below wr.heap.size wr _›.2.2) hu; try (have LA' := LA.mv (by first | exact hu | exact bl_drew9 hu)))
          | (go_at_call 36; with_reducible refine (CM.out _ (‹_ ∧ _ ∧ Below wr.heap.size wr _›.2.2) aA cA aB cB (by first | exact LA'.now | exact LA.now | exact LA' _ (Below.refl _ _).drew | exact LA _ (Below.refl _ _).drew) (by first | exact LB'.now | exact LB.now | exact LB' _ (Below.refl _ _).drew | exact LB _ (Below.refl _ _).drew)).mono ?_; rintro e u3 ⟨rfl, hu⟩; have hB := bl_call9 (‹_ ∧ _ ∧ Below wr.heap.size wr _›.2.2) hu; have hfin := hB))
      all_goals
        refine NoPanic.normal ?_
        go_wp2
        refine bodyPost_ret (v := .tuple #[.int .i64 res, .int .i64 0]) (by simp [results, Tryz.results18, go_sem]) rfl ?_
        exact ⟨by rw [HE.out.1, HE.out.2], HFIN.out _ hfin⟩
end Go.Proofs.YtpncmdlbmnmahaaGreat

/- Contracts of the document's row and Stand of literals. -/
namespace Go.Proofs.YtpncmdlbmnmahaaGreat
set_option linter.unusedVariables false
set_option linter.unusedSimpArgs false
open Go.RowKit
set_option maxRecDepth 100000 in
set_option maxHeartbeats 2000000 in
theorem rRow_any (x : LV) (w : World) (hX : IsLv w.heap.size w x) :
    Calls Tryz.prog 64 #[x.v] w fun e w' => ∃ a c, e = .returned (.slice a (rowL x.n x.l x.r).length c) ∧ Below w.heap.size w w' ∧ Later (fun X => IsArgs X.heap.size X (rowL x.n x.l x.r) a c) w' := by
  have hF : Below w.heap.size w (w.alloc x.obj) := (Below.refl _ w).alloc (Nat.le_refl _) _
  have HX := Lib.hid ((hX.below hF).mono hF.size)
  have HF := Lib.hid hF
  clear hX hF
  obtain ⟨n, l, r, pa, ca, pb, cb⟩ := x
  go_enter Tryz.func64, Tryz.ntmps64
  cases n with
  | true =>
    go_wp2
    refine bodyPost_ret (v := .slice (some ⟨w.heap.size + 1, 0, none⟩) 4 4) (by simp [results, Tryz.results64, go_sem]) rfl ?_
    exact ⟨_, _, rfl, HF.out.alloc HF.out.size _, row_four (X := w) HX.out (by simp) rfl⟩
  | false =>
    go_wp2
    refine bodyPost_ret (v := .slice (some ⟨w.heap.size + 1, 0, none⟩) 2 2) (by simp [results, Tryz.results64, go_sem]) rfl ?_
    exact ⟨_, _, rfl, HF.out.alloc HF.out.size _, row_two (X := w) HX.out (by simp) rfl⟩
theorem rowL_ok {g : Sg} {n : Bool} {l r : T} (h : errL g l r = 0) : ∀ t ∈ rowL n l r, errT g t = 0 := by
  obtain ⟨h1, h2, _⟩ := errL_ok h
  intro t ht
  cases n <;> simp [rowL] at ht <;> rcases ht with rfl | rfl <;> assumption
theorem rowL_len (n : Bool) (l r : T) : (rowL n l r).length ≤ 1000000 := by cases n <;> simp [rowL]
theorem rowL_sz {x : LV} (h : x.sz) : ∀ t ∈ rowL x.n x.l x.r, t.size ≤ 1000000000000 := by
  obtain ⟨xn, xl, xr, _, _, _, _⟩ := x
  obtain ⟨h1, h2⟩ := h
  intro t ht
  cases xn <;> simp [rowL] at ht <;> rcases ht with rfl | rfl <;> assumption
set_option maxRecDepth 100000 in
set_option maxHeartbeats 4000000 in
theorem rLitStand_any (g : Sg) (x y : LV) (hx : x.sz) (hy : y.sz) (h1 : errL g x.l x.r = 0) (h2 : errL g y.l y.r = 0) (n₀ : Nat) (ga : Option Addr) (gc : Nat) (w : World) (hn : n₀ ≤ w.heap.size) (hG : IsSg n₀ w g ga gc) (hX : IsLv n₀ w x) (hY : IsLv n₀ w y) :
    Calls Tryz.prog 43 #[.slice ga g.length gc, x.v, y.v] w fun e w' => e = .returned (.int .i64 (rowsT g (rowL x.n x.l x.r) (rowL y.n y.l y.r))) ∧ Below w.heap.size w w' := by
  have d0 := ((((((Later.below (Below.refl _ w)).and (later_lv (hY.mono hn))).and (later_lv (hX.mono hn))).and (later_sg (hG.mono hn))).pushL (Below.refl _ _) x).pushL (Below.refl _ _) y)
  simp only [heap_alloc_size] at d0
  have D1 := Lib.hid d0
  have CM0 := Lib.hid (fun (W : World) (hG : IsSg W.heap.size W g ga gc) (a1 : Option Addr) (c1 : Nat) (a2 : Option Addr) (c2 : Nat) (hA : IsArgs W.heap.size W (rowL x.n x.l x.r) a1 c1) (hB : IsArgs W.heap.size W (rowL y.n y.l y.r) a2 c2) =>
    rRows_any g (rowL x.n x.l x.r) (rowL y.n y.l y.r) (rowL_ok h1) (rowL_ok h2) (rowL_len _ _ _) (rowL_len _ _ _) (rowL_sz hx) (rowL_sz hy) W.heap.size ga gc a1 c1 a2 c2 W (Nat.le_refl _) hG hA hB)
  clear d0 hG hX hY h1 h2
  go_enter Tryz.func43, Tryz.ntmps43
  go_wp2
  generalize (w.alloc x.obj).alloc y.obj = wr at D1 ⊢
  have CA := Lib.hid (fun (W : World) (hW : Below wr.heap.size wr W) => rRow_any x W (D1.out.mv hW).now.2.2.2.1)
  have CB := Lib.hid (fun (W : World) (hW : Below wr.heap.size wr W) => rRow_any y W (D1.out.mv hW).now.2.2.2.2.1)
  have CM := Lib.hid (fun (W : World) (hW : Below wr.heap.size wr W) => CM0.out W (D1.out.mv hW).now.2.2.1)
  have KP := Lib.hid (show ∀ W, Below wr.heap.size wr W → Lc w.heap.size x W ∧ Lc (w.heap.size + 1) y W ∧ Below wr.heap.size wr W from fun W hW => ⟨(D1.out.mv hW).now.2.1, (D1.out.mv hW).now.1, hW⟩)
  have HFIN := Lib.hid (fun (W : World) (hW : Below wr.heap.size wr W) => (D1.out.mv hW).now.2.2.2.2.2)
  have HE : ∃ res, rowsT g (rowL x.n x.l x.r) (rowL y.n y.l y.r) = res := ⟨_, rfl⟩
  obtain ⟨res, hres⟩ := HE
  have HE := Lib.hid hres
  rw [hres] at CM
  clear hres
  simp only [Lc] at KP
  generalize rowL x.n x.l x.r = A at CA CM
  generalize rowL y.n y.l y.r = B at CB CM
  clear D1 CM0
  obtain ⟨⟨x0, x1, x2, x3, x4⟩, ⟨y0, y1, y2, y3, y4⟩, _⟩ := KP.out wr (Below.refl _ _)
  refine wp_region_noPanic ?_
  go_region_held3 (fun w' => (w'.cell? ⟨w.heap.size, 0, none⟩ = some (.bool x.n) ∧ w'.cell? ⟨w.heap.size, 1, none⟩ = some (.int .i64 x.l.head) ∧ w'.cell? ⟨w.heap.size, 2, none⟩ = some (.slice x.pa x.l.args.length x.ca) ∧ w'.cell? ⟨w.heap.size, 3, none⟩ = some (.int .i64 x.r.head) ∧ w'.cell? ⟨w.heap.size, 4, none⟩ = some (.slice x.pb x.r.args.length x.cb)) ∧ (w'.cell? ⟨w.heap.size + 1, 0, none⟩ = some (.bool y.n) ∧ w'.cell? ⟨w.heap.size + 1, 1, none⟩ = some (.int .i64 y.l.head) ∧ w'.cell? ⟨w.heap.size + 1, 2, none⟩ = some (.slice y.pa y.l.args.length y.ca) ∧ w'.cell? ⟨w.heap.size + 1, 3, none⟩ = some (.int .i64 y.r.head) ∧ w'.cell? ⟨w.heap.size + 1, 4, none⟩ = some (.slice y.pb y.r.args.length y.cb)) ∧ Below wr.heap.size wr w')
    (first
      | with_reducible exact KP.out _ (Below.refl _ _)
      | with_reducible exact KP.out _ (Below.refl _ _).drew
      | with_reducible exact KP.out _ hB)
    (first
      | (go_at_call 64; with_reducible refine (CA.out _ (‹_ ∧ _ ∧ Below wr.heap.size wr _›.2.2)).mono ?_; rintro e u1 ⟨aA, cA, rfl, hu, LA⟩; have hB := bl_call9 (‹_ ∧ _ ∧ Below wr.heap.size wr _›.2.2) hu; try (have LB' := LB.mv (by first | exact hu | exact bl_drew9 hu)))
      | (go_at_call 64; with_reducible refine (CB.out _ (‹_ ∧ _ ∧ Below wr.heap.size wr _›.2.2)).mono ?_; rintro e u2 ⟨aB, cB, rfl, hu, LB⟩; have hB := bl_call9 (‹_ ∧ _ ∧ Below wr.heap.size wr _›.2.2) hu; try (have LA' := LA.mv (by first | exact hu | exact bl_drew9 hu)))
      | (go_at_call 63; with_reducible refine (CM.out _ (‹_ ∧ _ ∧ Below wr.heap.size wr _›.2.2) aA cA aB cB (by first | exact LA'.now | exact LA.now | exact LA' _ (Below.refl _ _).drew | exact LA _ (Below.refl _ _).drew) (by first | exact LB'.now | exact LB.now | exact LB' _ (Below.refl _ _).drew | exact LB _ (Below.refl _ _).drew)).mono ?_; rintro e u3 ⟨rfl, hu⟩; have hB := bl_call9 (‹_ ∧ _ ∧ Below wr.heap.size wr _›.2.2) hu; have hfin := hB))
  all_goals
    refine NoPanic.normal ?_
    go_wp2
    go_ret
    exact ⟨by rw [HE.out]; rfl, HFIN.out _ hfin⟩
end Go.Proofs.YtpncmdlbmnmahaaGreat

/- Contracts of the reference's Apply and Shift. -/
namespace Go.Proofs.YtpncmdlbmnmahaaGreat
set_option linter.unusedVariables false
set_option linter.unusedSimpArgs false
open Go.RowKit
/-- What the reference's Right of substitutions answers. -/
def RightSAny : Prop := ∀ (s : Sb), (∀ x ∈ s, x.2.size ≤ 1000000000000) → ∀ (n₀ : Nat) (a : Option Addr) (c : Nat) (w : World), n₀ ≤ w.heap.size → IsBs n₀ w s a c →
  Calls Tryz.prog 92 #[.slice a s.length c] w fun e w' => e = .returned (.bool (rightS 0 s)) ∧ Below w.heap.size w w'
set_option maxRecDepth 100000 in
set_option maxHeartbeats 4000000 in
theorem refApplyF_any (RS : RightSAny) (s : Sb) (hsz : ∀ x ∈ s, x.2.size ≤ 1000000000000) (t : T) (ht : t.size ≤ 1000000000000) (n₀ : Nat) (a : Option Addr) (c : Nat) (at_ : Option Addr) (ct : Nat) (w : World) (hn : n₀ ≤ w.heap.size) (hS : IsBs n₀ w s a c) (htw : (Lit.int .i64 t.head).wf = true) (hA : IsArgs n₀ w t.args at_ ct) :
    Calls Tryz.prog 68 #[.slice a s.length c, tm t.head at_ t.args.length ct] w (TEPostF n₀ (appT s t) (appE s t) w) := by
  obtain ⟨w2, hw2⟩ : ∃ w2, (w.alloc (tmCells t.head at_ t.args.length ct)).alloc (tmCells 0 none 0 0) = w2 := ⟨_, rfl⟩
  have hB2 : Below w.heap.size w w2 := by rw [← hw2]; exact ((Below.refl _ w).alloc (Nat.le_refl _) _).alloc (by simp) _
  have hs2 : w2.heap.size = w.heap.size + 2 := by rw [← hw2]; simp
  have L2 := Lib.hid (show ∀ W, Below w2.heap.size w2 W → W.cell? ⟨w.heap.size, 0, none⟩ = some (.int .i64 t.head) ∧ W.cell? ⟨w.heap.size, 1, none⟩ = some (.slice at_ t.args.length ct) ∧ W.cell? ⟨w.heap.size + 1, 0, none⟩ = some (.int .i64 0) ∧ W.cell? ⟨w.heap.size + 1, 1, none⟩ = some (.slice none 0 0) ∧ W.frozen? ⟨w.heap.size + 1, 0, none⟩ = false ∧ W.frozen? ⟨w.heap.size + 1, 1, none⟩ = false from fun W hW =>
    ⟨(hW.cell (p := ⟨w.heap.size, 0, none⟩) (by simp; omega)).trans (by rw [← hw2]; simp [go_sem]), (hW.cell (p := ⟨w.heap.size, 1, none⟩) (by simp; omega)).trans (by rw [← hw2]; simp [go_sem]), (hW.cell (p := ⟨w.heap.size + 1, 0, none⟩) (by simp; omega)).trans (by rw [← hw2]; simp [go_sem]), (hW.cell (p := ⟨w.heap.size + 1, 1, none⟩) (by simp; omega)).trans (by rw [← hw2]; simp [go_sem]), (hW.frozen (p := ⟨w.heap.size + 1, 0, none⟩) (by simp; omega)).trans (by rw [← hw2]; simp [go_sem]), (hW.frozen (p := ⟨w.heap.size + 1, 1, none⟩) (by simp; omega)).trans (by rw [← hw2]; simp [go_sem])⟩)
  have LS := Lib.hid (show ∀ W, Below w2.heap.size w2 W → IsBs n₀ W s a c ∧ IsArgs n₀ W t.args at_ ct ∧ Below w.heap.size w W ∧ n₀ ≤ W.heap.size from fun W hW => by
    have h := hB2.trans (hW.mono hB2.size)
    exact ⟨hS.below (h.mono hn), hA.below (h.mono hn), h, Nat.le_trans hn h.size⟩)
  have HTW := Lib.hid htw
  have HSZ := Lib.hid hsz
  have HS2 := Lib.hid hs2
  have HRS := Lib.hid RS
  clear hS hA hB2 hs2 htw hsz RS
  go_enter Tryz.func68, Tryz.ntmps68
  go_wp2_with fail
  have ls := LS.out w2 (Below.refl _ _)
  refine (HRS.out s HSZ.out n₀ a c w2 ls.2.2.2 ls.1).mono ?_
  clear ls hw2
  rintro e w3 ⟨rfl, hb3⟩
  cases q1 : rightS 0 s
  · have hga : goodA s t = false := by simp [goodA, q1]
    have hT : appT s t = Z0 := by unfold appT; rw [hga]; rfl
    have hE : appE s t = 1 := by unfold appE; rw [hga]; rfl
    obtain ⟨_, _, s0, s1, sf0, sf1⟩ := L2.out w3 hb3
    have HF := Lib.hid (LS.out w3 hb3).2.2.1
    clear hb3
    go_wp2
    refine bodyPost_ret (v := .tuple #[tm 0 none 0 0, .int .i64 1]) (by simp [results, Tryz.results68, go_sem, s0, s1]) rfl ?_
    first | rw [hT, hE] | skip
    exact ⟨none, 0, rfl, wf_z0, isArgsp_z _ _, (HF.out.setCell (p := ⟨w.heap.size + 1, 0, none⟩) (by simp) _).setCell (p := ⟨w.heap.size + 1, 1, none⟩) (by simp) _⟩
  · obtain ⟨c0, c1, _, _, _, _⟩ := L2.out w3 hb3
    have HB3 := Lib.hid hb3
    clear hb3
    go_wp2_with fail
    clear c0 c1
    have ls := LS.out w3 HB3.out
    refine (refRight_any t ht n₀ at_ ct w3 ls.2.2.2 ls.2.1).mono ?_
    clear ls
    rintro e w4 ⟨rfl, hb4⟩
    have HB4 := Lib.hid (HB3.out.trans (hb4.mono HB3.out.size))
    clear hb4
    by_cases q2 : t.check = 0
    · rw [decide_eq_true q2]
      have hga : goodA s t = true := by simp [goodA, q1, q2]
      have hT : appT s t = endT (t.sub (ofS s)) := by unfold appT; rw [if_pos hga]
      have hE : appE s t = (t.sub (ofS s)).check := by unfold appE; rw [if_pos hga]
      obtain ⟨hts, _, htg⟩ := check_ok q2
      have hxs : (t.sub (ofS s)).size ≤ 1000000000000 := Nat.le_trans (sub_bound q1 hts) (by omega)
      obtain ⟨c0, c1, _, _, _, _⟩ := L2.out w4 HB4.out
      go_wp2_with fail
      clear c0 c1
      have ls := LS.out w4 HB4.out
      refine (refSub_any s t.size t (Nat.le_refl _) ht n₀ at_ ct a c w4 ls.2.2.2 HTW.out ls.2.1 ls.1).mono ?_
      clear ls
      generalize t.sub (ofS s) = x at hxs hT hE ⊢
      rintro e w5 ⟨a5, c5, rfl, hw5, hI5, hb5⟩
      have HI5 := Lib.hid hI5
      have HW5 := Lib.hid hw5
      have HB5 := Lib.hid (HB4.out.trans (hb5.mono HB4.out.size))
      have hn5 : n₀ ≤ w5.heap.size := Nat.le_trans (LS.out w4 HB4.out).2.2.2 hb5.size
      have hn4 : w.heap.size + 2 ≤ w4.heap.size := by have := HB4.out.size; have := HS2.out; omega
      clear hI5 hw5 hb5
      go_wp2_with fail
      refine (refEnd_any x hxs _ a5 c5 w5 (fun b h => by rcases h with h | h; omega; exact h.2) HW5.out HI5.out).mono ?_
      rintro e w7 ⟨a7, c7, rfl, hw7, hA7, hb7⟩
      obtain ⟨y, hy⟩ : ∃ y, endT x = y := ⟨_, rfl⟩
      rw [hy] at hw7 hA7 hT ⊢
      have HB7 := Lib.hid (HB5.out.trans (hb7.mono HB5.out.size))
      have hz7 := hb7.size
      obtain ⟨w8, hw8⟩ : ∃ w8, w7.alloc (tmCells y.head a7 y.args.length c7) = w8 := ⟨_, rfl⟩
      have hz8 : w8.heap.size = w7.heap.size + 1 := by rw [← hw8]; simp
      have d0 : w8.cell? ⟨w7.heap.size, 0, none⟩ = some (.int .i64 y.head) := by rw [← hw8]; simp [go_sem]
      have d1 : w8.cell? ⟨w7.heap.size, 1, none⟩ = some (.slice a7 y.args.length c7) := by rw [← hw8]; simp [go_sem]
      have HB8 := Lib.hid (bl2 HB7.out hw8.symm)
      have HA8 := Lib.hid (hA7.keep (ok' := fun b => (b < n₀ ∨ w.heap.size + 2 ≤ b) ∧ b < w8.heap.size) (w' := w8) (fun b hb => by rw [← hw8]; exact Below.heap_alloc _ _ _ (by rcases hb with h | h; omega; have := h.2; omega)) (fun b hb => by rcases hb with h | h; exact ⟨.inl h, by omega⟩; exact ⟨by have := h.1; omega, by have := h.2; omega⟩))
      obtain ⟨_, _, s0, s1, sf0, sf1⟩ := L2.out w8 HB8.out
      have HW7 := Lib.hid hw7
      have HF := Lib.hid (LS.out w8 HB8.out).2.2.1
      clear hA7 hb7 hw7
      go_wp2
      refine bodyPost_ret (v := .tuple #[tm y.head a7 y.args.length c7, .int .i64 x.check]) (by simp [results, Tryz.results68, go_sem, s0, s1]) rfl ?_
      first | rw [hT, hE] | rw [hE] | rw [hT] | skip
      exact ⟨a7, c7, rfl, HW7.out, (HA8.out.keep (ok' := fun b => (b < n₀ ∨ w.heap.size ≤ b) ∧ b < ((w8.setCell ⟨w.heap.size + 1, 0, none⟩ (.int .i64 y.head)).setCell ⟨w.heap.size + 1, 1, none⟩ (.slice a7 y.args.length c7)).heap.size) (fun b hb => (Below.heap_setCell _ _ _ _ (show b ≠ w.heap.size + 1 by have := hb.1; omega)).trans (Below.heap_setCell _ _ _ _ (show b ≠ w.heap.size + 1 by have := hb.1; omega))) (fun b hb => by have h1 := hb.1; have h2 := hb.2; simp; omega)), (HF.out.setCell (p := ⟨w.heap.size + 1, 0, none⟩) (by simp) _).setCell (p := ⟨w.heap.size + 1, 1, none⟩) (by simp) _⟩
    · rw [decide_eq_false q2]
      have hga : goodA s t = false := by simp [goodA, q2]
      have hT : appT s t = Z0 := by unfold appT; rw [hga]; rfl
      have hE : appE s t = 1 := by unfold appE; rw [hga]; rfl
      obtain ⟨_, _, s0, s1, sf0, sf1⟩ := L2.out w4 HB4.out
      have HF := Lib.hid (LS.out w4 HB4.out).2.2.1
      go_wp2
      refine bodyPost_ret (v := .tuple #[tm 0 none 0 0, .int .i64 1]) (by simp [results, Tryz.results68, go_sem, s0, s1]) rfl ?_
      first | rw [hT, hE] | skip
      exact ⟨none, 0, rfl, wf_z0, isArgsp_z _ _, (HF.out.setCell (p := ⟨w.heap.size + 1, 0, none⟩) (by simp) _).setCell (p := ⟨w.heap.size + 1, 1, none⟩) (by simp) _⟩
end Go.Proofs.YtpncmdlbmnmahaaGreat
