/- QBs: joined of Lck, R7c, R8. -/
import Derived.Test.YtpncmdlbmnmahaaGreatQBm
import Derived.Test.YtpncmdlbmnmahaaGreatQBe
import Derived.Test.YtpncmdlbmnmahaaGreatQBr
import Derived.Test.YtpncmdlbmnmahaaGreatQBp
import Derived.Test.YtpncmdlbmnmahaaGreatQBk
import Derived.Test.YtpncmdlbmnmahaaGreatQBo
import Derived.Deep.RegionHeld3
import Derived.Deep.CutRange
/- Contract of lit's Check. -/
namespace Go.Proofs.YtpncmdlbmnmahaaGreat
set_option linter.unusedVariables false
set_option linter.unusedSimpArgs false
open Go.RowKit
/-- A claim: a literal with its signature. -/
abbrev ClV (g : Sg) (ga : Option Addr) (gc : Nat) (x : LV) : Value := .agg #[.slice ga g.length gc, .bool x.n, .int .i64 x.l.head, .slice x.pa x.l.args.length x.ca, .int .i64 x.r.head, .slice x.pb x.r.args.length x.cb]
abbrev ClO (g : Sg) (ga : Option Addr) (gc : Nat) (x : LV) : Obj := .cells #[.slice ga g.length gc, .bool x.n, .int .i64 x.l.head, .slice x.pa x.l.args.length x.ca, .int .i64 x.r.head, .slice x.pb x.r.args.length x.cb] 82
/-- A variable that holds a claim. -/
def Clc (b : Nat) (g : Sg) (ga : Option Addr) (gc : Nat) (x : LV) (X : World) : Prop :=
  X.cell? ⟨b, 0, none⟩ = some (.slice ga g.length gc) ∧ X.cell? ⟨b, 1, none⟩ = some (.bool x.n) ∧ X.cell? ⟨b, 2, none⟩ = some (.int .i64 x.l.head) ∧ X.cell? ⟨b, 3, none⟩ = some (.slice x.pa x.l.args.length x.ca) ∧ X.cell? ⟨b, 4, none⟩ = some (.int .i64 x.r.head) ∧ X.cell? ⟨b, 5, none⟩ = some (.slice x.pb x.r.args.length x.cb)
theorem later_clc (W : World) (g : Sg) (ga : Option Addr) (gc : Nat) (x : LV) : Later (Clc W.heap.size g ga gc x) (W.alloc (ClO g ga gc x)) := fun X hX =>
  ⟨(hX.cell (p := ⟨W.heap.size, 0, none⟩) (by simp)).trans (by simp [go_sem]), (hX.cell (p := ⟨W.heap.size, 1, none⟩) (by simp)).trans (by simp [go_sem]), (hX.cell (p := ⟨W.heap.size, 2, none⟩) (by simp)).trans (by simp [go_sem]),
    (hX.cell (p := ⟨W.heap.size, 3, none⟩) (by simp)).trans (by simp [go_sem]), (hX.cell (p := ⟨W.heap.size, 4, none⟩) (by simp)).trans (by simp [go_sem]), (hX.cell (p := ⟨W.heap.size, 5, none⟩) (by simp)).trans (by simp [go_sem])⟩
theorem Later.pushCl {F : World → Prop} {W W' : World} (k : Later F W) (hb : Below W.heap.size W W') (g : Sg) (ga : Option Addr) (gc : Nat) (x : LV) : Later (fun X => Clc W'.heap.size g ga gc x X ∧ F X) (W'.alloc (ClO g ga gc x)) :=
  (k.mv (hb.alloc hb.size _)).and (later_clc W' g ga gc x)
set_option maxRecDepth 100000 in
set_option maxHeartbeats 2000000 in
theorem clLeft_any (g : Sg) (x : LV) (hx : x.sz) (n₀ : Nat) (ga : Option Addr) (gc : Nat) (w : World) (hn : n₀ ≤ w.heap.size) (hG : IsSg n₀ w g ga gc) (hX : IsLv n₀ w x) :
    Calls Tryz.prog 54 #[ClV g ga gc x] w fun e w' => e = .returned (.int .i64 (errT g x.l)) ∧ Below w.heap.size w w' := by
  have hF : Below w.heap.size w (w.alloc (ClO g ga gc x)) := (Below.refl _ w).alloc (Nat.le_refl _) _
  have hX1 := hX.below (hF.mono hn)
  have C := Lib.hid (sgTerm_any g x.l hx.1 n₀ ga gc x.pa x.ca (w.alloc (ClO g ga gc x)) (by simp; omega) (hG.below (hF.mono hn)) hX.lw hX1.la)
  have HF := Lib.hid hF
  clear hX hF hX1 hG
  go_enter Tryz.func54, Tryz.ntmps54
  go_wp2_with fail
  refine C.out.mono ?_
  rintro e w2 ⟨rfl, hb⟩
  have HB := Lib.hid (HF.out.trans (hb.mono HF.out.size))
  clear hb
  go_wp2
  go_ret
  exact ⟨rfl, HB.out⟩
set_option maxRecDepth 100000 in
set_option maxHeartbeats 2000000 in
theorem clRight_any (g : Sg) (x : LV) (hx : x.sz) (n₀ : Nat) (ga : Option Addr) (gc : Nat) (w : World) (hn : n₀ ≤ w.heap.size) (hG : IsSg n₀ w g ga gc) (hX : IsLv n₀ w x) :
    Calls Tryz.prog 55 #[ClV g ga gc x] w fun e w' => e = .returned (.int .i64 (errT g x.r)) ∧ Below w.heap.size w w' := by
  have hF : Below w.heap.size w (w.alloc (ClO g ga gc x)) := (Below.refl _ w).alloc (Nat.le_refl _) _
  have hX1 := hX.below (hF.mono hn)
  have C := Lib.hid (sgTerm_any g x.r hx.2 n₀ ga gc x.pb x.cb (w.alloc (ClO g ga gc x)) (by simp; omega) (hG.below (hF.mono hn)) hX.rw hX1.ra)
  have HF := Lib.hid hF
  clear hX hF hX1 hG
  go_enter Tryz.func55, Tryz.ntmps55
  go_wp2_with fail
  refine C.out.mono ?_
  rintro e w2 ⟨rfl, hb⟩
  have HB := Lib.hid (HF.out.trans (hb.mono HF.out.size))
  clear hb
  go_wp2
  go_ret
  exact ⟨rfl, HB.out⟩
/-- Is its symbol in the signature, or a variable? -/
theorem head_lt {g : Sg} {t : T} (h : errT g t = 0) (h0 : 0 ≤ t.head) : t.head < (g.length : Int) := by
  have hf := (errT_ok h).2.2.1
  rw [fitsT_eq] at hf
  unfold armOk at hf
  cases hx : g[t.head.toNat]? with
  | none => rw [hx] at hf; simp at hf; omega
  | some x => have := (List.getElem?_eq_some_iff.1 hx).1; omega
set_option maxRecDepth 100000 in
set_option maxHeartbeats 2000000 in
theorem clAtom_any (g : Sg) (x : LV) (t : T) (ht : errT g t = 0) (n₀ : Nat) (ga : Option Addr) (gc : Nat) (a : Option Addr) (c : Nat) (w : World) (hn : n₀ ≤ w.heap.size) (hG : IsSg n₀ w g ga gc) :
    Calls Tryz.prog 72 #[ClV g ga gc x, tm t.head a t.args.length c] w fun e w' => e = .returned (.bool (predS g t.head)) ∧ Below w.heap.size w w' := by
  have hlg : g.length ≤ gc ∧ gc ≤ maxLen := ⟨hG.1, hG.2.1⟩
  unfold maxLen at hlg
  obtain ⟨hl3, hl4⟩ := hlg
  have HF := Lib.hid (show Below w.heap.size w ((w.alloc (ClO g ga gc x)).alloc (tmCells t.head a t.args.length c)) from ((Below.refl _ w).alloc (Nat.le_refl _) _).alloc (by simp) _)
  by_cases q1 : t.head < 0
  · have HD := Lib.hid (show predS g t.head = false from by unfold predS; simp [show ¬ 0 ≤ t.head from by omega])
    clear hG ht
    go_enter Tryz.func72, Tryz.ntmps72
    go_wp2
    go_ret
    exact ⟨by rw [HD.out]; rfl, HF.out⟩
  · have hk0 : (0 : Int) ≤ t.head := by omega
    have hk1 := head_lt ht hk0
    obtain ⟨b, o, y, rfl, hbn, hs, hxw, hc0, hc1, hc2, hc3⟩ := hG.elem (i := t.head.toNat) (by omega)
    have HD := Lib.hid (show predS g t.head = y.tr from by unfold predS; rw [hs]; simp [hk0])
    have hbw : b < w.heap.size := by omega
    clear hG hs hxw hc0 hc1 hc2 ht q1
    go_enter Tryz.func72, Tryz.ntmps72
    go_wp2
    go_ret
    exact ⟨by rw [HD.out]; cases y.tr <;> rfl, HF.out⟩
set_option maxRecDepth 100000 in
set_option maxHeartbeats 4000000 in
theorem clSorts_any (g : Sg) (x : LV) (h1 : errT g x.l = 0) (h2 : errT g x.r = 0) (n₀ : Nat) (ga : Option Addr) (gc : Nat) (w : World) (hn : n₀ ≤ w.heap.size) (hG : IsSg n₀ w g ga gc) (hX : IsLv n₀ w x) :
    Calls Tryz.prog 56 #[ClV g ga gc x] w fun e w' => e = .returned (.int .i64 (sortE g x.l x.r)) ∧ Below w.heap.size w w' := by
  have d0 := (((Later.below (Below.refl _ w)).and (later_lv (hX.mono hn))).and (later_sg (hG.mono hn))).pushCl (Below.refl _ _) g ga gc x
  have C1 := Lib.hid (fun (W : World) (hG : IsSg W.heap.size W g ga gc) => clAtom_any g x x.l h1 W.heap.size ga gc x.pa x.ca W (Nat.le_refl _) hG)
  have C2 := Lib.hid (fun (W : World) (hG : IsSg W.heap.size W g ga gc) => clAtom_any g x x.r h2 W.heap.size ga gc x.pb x.cb W (Nat.le_refl _) hG)
  have D := Lib.hid d0
  clear d0 hG hX h1 h2
  go_enter Tryz.func56, Tryz.ntmps56
  go_wp2_with fail
  generalize w.alloc (ClO g ga gc x) = w1 at D ⊢
  generalize hb0 : w.heap.size = b0 at D ⊢
  have HB0 := Lib.hid hb0
  clear hb0
  refine (C1.out w1 D.out.now.2.1).mono ?_
  rintro e w2 ⟨rfl, hb⟩
  have D2 := Lib.hid (D.out.mv hb)
  clear hb D
  obtain ⟨⟨x0, x1, x2, x3, x4, x5⟩, _⟩ := D2.out.now
  obtain ⟨p, hp⟩ : ∃ p, predS g x.l.head = p := ⟨_, rfl⟩
  have HP := Lib.hid hp
  rw [hp]
  cases p with
  | true =>
    by_cases hr : x.r.head = 0
    · have HS := Lib.hid (show sortE g x.l x.r = 0 from by unfold sortE; rw [if_pos hp, if_pos hr])
      have HQ := Lib.hid D2.out.now.2.2.2
      rw [hr] at x4
      clear hr hp
      go_wp2
      go_ret
      exact ⟨by rw [HS.out]; rfl, by rw [HB0.out]; exact HQ.out⟩
    · have HS := Lib.hid (show sortE g x.l x.r = 10 from by unfold sortE; rw [if_pos hp, if_neg hr])
      have hr' : (x.r.head == 0) = false := by simpa using hr
      clear hr hp
      go_wp2_with fail
      refine (C1.out w2 D2.out.now.2.1).mono ?_
      clear x0 x1 x2 x3 x4 x5
      rintro e w3 ⟨rfl, hb⟩
      have HQ := Lib.hid (D2.out.mv hb).now.2.2.2
      clear hb D2
      rw [HP.out]
      go_wp2
      go_ret
      exact ⟨by rw [HS.out]; rfl, by rw [HB0.out]; exact HQ.out⟩
  | false =>
    have HS := Lib.hid (show sortE g x.l x.r = if predS g x.r.head then 10 else 0 from by unfold sortE; rw [if_neg (by rw [hp]; decide)])
    clear hp
    go_wp2_with fail
    refine (C1.out w2 D2.out.now.2.1).mono ?_
    clear x0 x1 x2 x3 x4 x5
    rintro e w3 ⟨rfl, hb⟩
    have D3 := Lib.hid (D2.out.mv hb)
    clear hb D2
    rw [HP.out]
    obtain ⟨⟨x0, x1, x2, x3, x4, x5⟩, _⟩ := D3.out.now
    go_wp2_with fail
    refine (C2.out w3 D3.out.now.2.1).mono ?_
    clear x0 x1 x2 x3 x4 x5
    rintro e w4 ⟨rfl, hb⟩
    have HQ := Lib.hid (D3.out.mv hb).now.2.2.2
    clear hb D3
    cases hq : predS g x.r.head with
    | true =>
      have HT := Lib.hid (show sortE g x.l x.r = 10 from by rw [HS.out, hq]; rfl)
      clear hq
      go_wp2
      go_ret
      exact ⟨by rw [HT.out]; rfl, by rw [HB0.out]; exact HQ.out⟩
    | false =>
      have HT := Lib.hid (show sortE g x.l x.r = 0 from by rw [HS.out, hq]; rfl)
      clear hq
      go_wp2
      go_ret
      exact ⟨by rw [HT.out]; rfl, by rw [HB0.out]; exact HQ.out⟩
abbrev fnV (f : Nat) : Value := .func (.func f) #[] #[]
/-- The three tests in memory. -/
def TsM (bt : Nat) (X : World) : Prop := X.cell? ⟨bt, 0, none⟩ = some (fnV 54) ∧ X.cell? ⟨bt, 1, none⟩ = some (fnV 55) ∧ X.cell? ⟨bt, 2, none⟩ = some (fnV 56)
def TeI (g : Sg) (x : LV) (w1 : World) (i : Value) (wr : World) : Prop :=
  Below w1.heap.size w1 wr ∧ (i = .int .i64 0 ∨ (i = .int .i64 1 ∧ errT g x.l = 0) ∨ (i = .int .i64 2 ∧ errT g x.l = 0 ∧ errT g x.r = 0) ∨ (i = .int .i64 3 ∧ errL g x.l x.r = 0))
set_option maxRecDepth 100000 in
set_option maxHeartbeats 4000000 in
/-- The tests of a literal, one by one. -/
theorem litFirst_any (g : Sg) (x : LV) (hx : x.sz) (n₀ : Nat) (ga : Option Addr) (gc : Nat) (bt : Nat) (w : World) (hn : n₀ ≤ w.heap.size) (hG : IsSg n₀ w g ga gc) (hX : IsLv n₀ w x) (hbt : bt < w.heap.size) (ht : TsM bt w) :
    Calls Tryz.prog 53 #[ClV g ga gc x, .slice (some ⟨bt, 0, none⟩) 3 3] w fun e w' => e = .returned (.int .i64 (errL g x.l x.r)) ∧ Below w.heap.size w w' := by
  have hT : Later (TsM bt) w := fun X hX => ⟨(hX.cell (p := ⟨bt, 0, none⟩) hbt).trans ht.1, (hX.cell (p := ⟨bt, 1, none⟩) hbt).trans ht.2.1, (hX.cell (p := ⟨bt, 2, none⟩) hbt).trans ht.2.2⟩
  have d0 := ((((Later.below (Below.refl _ w)).and (later_lv (hX.mono hn))).and (later_sg (hG.mono hn))).and hT).pushCl (Below.refl _ _) g ga gc x
  have C1 := Lib.hid (fun (W : World) (hG : IsSg W.heap.size W g ga gc) (hX : IsLv W.heap.size W x) => clLeft_any g x hx W.heap.size ga gc W (Nat.le_refl _) hG hX)
  have C2 := Lib.hid (fun (W : World) (hG : IsSg W.heap.size W g ga gc) (hX : IsLv W.heap.size W x) => clRight_any g x hx W.heap.size ga gc W (Nat.le_refl _) hG hX)
  have C3 := Lib.hid (fun (h1 : errT g x.l = 0) (h2 : errT g x.r = 0) (W : World) (hG : IsSg W.heap.size W g ga gc) (hX : IsLv W.heap.size W x) => clSorts_any g x h1 h2 W.heap.size ga gc W (Nat.le_refl _) hG hX)
  have D := Lib.hid d0
  have HBT := Lib.hid hbt
  have eg1 := enters_of Tryz.func54 (by kernel_rfl) rfl
  have eg2 := enters_of Tryz.func55 (by kernel_rfl) rfl
  have eg3 := enters_of Tryz.func56 (by kernel_rfl) rfl
  have hbs : bt < w.heap.size + 1 := by omega
  clear d0 hG hX hT ht
  go_enter Tryz.func53, Tryz.ntmps53
  go_wp2
  have hs1 : (w.alloc (ClO g ga gc x)).heap.size = w.heap.size + 1 := by simp
  generalize w.alloc (ClO g ga gc x) = w1 at D hs1 ⊢
  go_loopw [10] (fun i wr => TeI g x w1 i wr) (fun i _ => 3 - (intOf i).toNat)
  case atStart => exact ⟨Below.refl _ _, .inl rfl⟩
  case round =>
    obtain ⟨hB, hk⟩ := hrel
    have hbz := hB.size
    have HB := Lib.hid hB
    have D1 := Lib.hid (D.out.mv hB)
    have hbw : bt < wr.heap.size := by omega
    clear hB
    rcases hk with rfl | ⟨rfl, h1⟩ | ⟨rfl, h1, h2⟩ | ⟨rfl, h1⟩
    · obtain ⟨⟨x0, x1, x2, x3, x4, x5⟩, ⟨t0, t1, t2⟩, _⟩ := D1.out.now
      go_wp2_with fail
      refine (C1.out wr D1.out.now.2.2.1 D1.out.now.2.2.2.1).mono ?_
      rintro e w2 ⟨rfl, hb⟩
      clear x0 x1 x2 x3 x4 x5 t0 t1 t2
      have HB2 := Lib.hid (HB.out.trans (hb.mono hbz))
      have HQ := Lib.hid (D1.out.mv hb).now.2.2.2.2
      clear hb
      by_cases h : errT g x.l = 0
      · have H := Lib.hid h
        rw [h]
        clear h
        go_wp2
        go_roundw
        case rel => exact ⟨HB2.out, .inr (.inl ⟨rfl, H.out⟩)⟩
        case measure => simp [intOf]
      · have HE := Lib.hid (errL_left (r := x.r) h)
        obtain ⟨k, hk⟩ : ∃ k, errT g x.l = k := ⟨_, rfl⟩
        rw [hk] at HE h ⊢
        have h2 : (k != 0) = true := by simpa using h
        clear h hk
        go_wp2
        go_ret
        exact ⟨by rw [HE.out]; rfl, HQ.out⟩
    · obtain ⟨⟨x0, x1, x2, x3, x4, x5⟩, ⟨t0, t1, t2⟩, _⟩ := D1.out.now
      have H1 := Lib.hid h1
      clear h1
      go_wp2_with fail
      refine (C2.out wr D1.out.now.2.2.1 D1.out.now.2.2.2.1).mono ?_
      rintro e w2 ⟨rfl, hb⟩
      clear x0 x1 x2 x3 x4 x5 t0 t1 t2
      have HB2 := Lib.hid (HB.out.trans (hb.mono hbz))
      have HQ := Lib.hid (D1.out.mv hb).now.2.2.2.2
      clear hb
      by_cases h : errT g x.r = 0
      · have H := Lib.hid h
        rw [h]
        clear h
        go_wp2
        go_roundw
        case rel => exact ⟨HB2.out, .inr (.inr (.inl ⟨rfl, H1.out, H.out⟩))⟩
        case measure => simp [intOf]
      · have HE := Lib.hid (errL_right H1.out h)
        obtain ⟨k, hk⟩ : ∃ k, errT g x.r = k := ⟨_, rfl⟩
        rw [hk] at HE h ⊢
        have h2 : (k != 0) = true := by simpa using h
        clear h hk
        go_wp2
        go_ret
        exact ⟨by rw [HE.out]; rfl, HQ.out⟩
    · obtain ⟨⟨x0, x1, x2, x3, x4, x5⟩, ⟨t0, t1, t2⟩, _⟩ := D1.out.now
      have HE := Lib.hid (errL_sort h1 h2)
      have C4 := Lib.hid (C3.out h1 h2)
      clear h1 h2
      go_wp2_with fail
      refine (C4.out wr D1.out.now.2.2.1 D1.out.now.2.2.2.1).mono ?_
      rintro e w2 ⟨rfl, hb⟩
      clear x0 x1 x2 x3 x4 x5 t0 t1 t2
      have HB2 := Lib.hid (HB.out.trans (hb.mono hbz))
      have HQ := Lib.hid (D1.out.mv hb).now.2.2.2.2
      clear hb
      by_cases h : sortE g x.l x.r = 0
      · have H := Lib.hid (HE.out.trans h)
        rw [h]
        clear h
        go_wp2
        go_roundw
        case rel => exact ⟨HB2.out, .inr (.inr (.inr ⟨rfl, H.out⟩))⟩
        case measure => simp [intOf]
      · obtain ⟨k, hk⟩ : ∃ k, sortE g x.l x.r = k := ⟨_, rfl⟩
        rw [hk] at HE h ⊢
        have h2 : (k != 0) = true := by simpa using h
        clear h hk
        go_wp2
        go_ret
        exact ⟨by rw [HE.out]; rfl, HQ.out⟩
    · have HQ := Lib.hid D1.out.now.2.2.2.2
      have HE := Lib.hid h1
      clear h1
      go_wp2
      go_ret
      exact ⟨by rw [HE.out]; rfl, HQ.out⟩
set_option maxRecDepth 100000 in
set_option maxHeartbeats 4000000 in
theorem litCheck_any (g : Sg) (x : LV) (hx : x.sz) (n₀ : Nat) (ga : Option Addr) (gc : Nat) (w : World) (hn : n₀ ≤ w.heap.size) (hG : IsSg n₀ w g ga gc) (hX : IsLv n₀ w x) :
    Calls Tryz.prog 35 #[.slice ga g.length gc, x.v] w fun e w' => e = .returned (.int .i64 (errL g x.l x.r)) ∧ Below w.heap.size w w' := by
  obtain ⟨W1, hW1⟩ : ∃ W1, (w.alloc x.obj).alloc (.cells #[fnV 54, fnV 55, fnV 56] 83) = W1 := ⟨_, rfl⟩
  have hs1 : W1.heap.size = w.heap.size + 2 := by rw [← hW1]; simp
  have hF1 : Below w.heap.size w W1 := by rw [← hW1]; exact ((Below.refl _ w).alloc (Nat.le_refl _) _).alloc (by simp) _
  have ht : TsM (w.heap.size + 1) W1 := by rw [← hW1]; exact ⟨by simp [go_sem], by simp [go_sem], by simp [go_sem]⟩
  have HC := Lib.hid (litFirst_any g x hx n₀ ga gc (w.heap.size + 1) W1 (by omega) (hG.below (hF1.mono hn)) (hX.below (hF1.mono hn)) (by omega) ht)
  have HF := Lib.hid hF1
  clear hG hX hF1 ht
  go_enter Tryz.func35, Tryz.ntmps35
  go_wp2_with fail
  try rw [hW1]
  refine HC.out.mono ?_
  rintro e w2 ⟨rfl, hb⟩
  have HB := Lib.hid (HF.out.trans (hb.mono HF.out.size))
  clear hb
  go_wp2
  go_ret
  exact ⟨rfl, HB.out⟩
end Go.Proofs.YtpncmdlbmnmahaaGreat

/- Contracts of the document's answer: weight, Weight, Count (layer 7). -/
namespace Go.Proofs.YtpncmdlbmnmahaaGreat
set_option linter.unusedVariables false
set_option linter.unusedSimpArgs false
open Go.RowKit
def WtI (g : Sg) (t : T) (B : Nat) (w1 : World) (n i : Value) (wr : World) : Prop := ∃ k : Nat, k ≤ t.args.length ∧ i = .int .i64 k ∧ n = .int .i64 (wo g t.head + wtL g (t.args.take k)) ∧ Below B w1 wr
theorem wtL_bounds {g : Sg} (hr : rightG g = true) {t : T} (ht : OkT g t) (k : Nat) : 0 ≤ wtL g (t.args.take k) ∧ wtL g (t.args.take k) ≤ 400000 := by
  have hh : ∀ x ∈ T.hdsL (t.args.take k), 1 ≤ wo g x ∧ wo g x ≤ 1000 := fun x hx => by
    refine wo_bound hr (ht.heads x ?_)
    rw [T.hds_eq]
    refine List.mem_cons_of_mem _ ?_
    have h := hdsL_append (t.args.take k) (t.args.drop k)
    rw [List.take_append_drop] at h
    rw [h]
    exact List.mem_append_left _ hx
  have h1 : 0 ≤ wtL g (t.args.take k) := by rw [← sumA_hdsL]; exact sumA_nonneg (fun x hx => by have := hh x hx; omega)
  refine ⟨h1, ?_⟩
  have h2 := wtL_append g (t.args.take k) (t.args.drop k)
  rw [List.take_append_drop] at h2
  have h3 : 0 ≤ wtL g (t.args.drop k) := by
    rw [← sumA_hdsL]
    refine sumA_nonneg (fun x hx => ?_)
    have h := hdsL_append (t.args.take k) (t.args.drop k)
    rw [List.take_append_drop] at h
    have := wo_bound hr (ht.heads x (by rw [T.hds_eq]; refine List.mem_cons_of_mem _ ?_; rw [h]; exact List.mem_append_right _ hx))
    omega
  have h4 := wtT_eq g t
  have h5 : wtT g t ≤ 400000 := by
    have hb := sumA_bound (f := wo g) (L := t.hds) (fun x hx => by have := wo_bound hr (ht.heads x hx); omega)
    rw [sumA_hds, T.hds_length] at hb
    have := (check_ok ht.1).1
    omega
  have h6 := wo_bound hr (ht.heads t.head (by rw [T.hds_eq]; simp))
  omega
set_option maxRecDepth 100000 in
set_option maxHeartbeats 4000000 in
theorem r7weight_any (g : Sg) (hr : rightG g = true) : ∀ (N : Nat) (t : T), t.size ≤ N → OkT g t → ∀ (n₀ : Nat) (ga : Option Addr) (gc : Nat) (a : Option Addr) (c : Nat) (w : World), n₀ ≤ w.heap.size → IsSg n₀ w g ga gc → IsArgs n₀ w t.args a c →
    Calls Tryz.prog 91 #[.slice ga g.length gc, tm t.head a t.args.length c] w fun e w' => e = .returned (.int .i64 (wtT g t)) ∧ Below w.heap.size w w' := by
  intro N
  induction N with
  | zero => intro t ht; have := T.size_pos t; omega
  | succ N ih =>
    intro t ht hok n₀ ga gc a c w hn hG hA
    have IH := Lib.hid ih
    clear ih
    have hlc : t.args.length ≤ c ∧ c ≤ maxLen := ⟨hA.1, hA.2.1⟩
    have hlg : g.length ≤ gc ∧ gc ≤ maxLen := ⟨hG.1, hG.2.1⟩
    unfold maxLen at hlc hlg
    obtain ⟨hl1, hl2⟩ := hlc
    obtain ⟨hl3, hl4⟩ := hlg
    have HS := Lib.hid (show ∀ s ∈ t.args, s.size ≤ N from fun s hs => by
      obtain ⟨i, hi⟩ := List.getElem?_of_mem hs
      have h1 := T.size_lt_of_mem hi
      have h2 := T.size_eq t
      omega)
    have HOK := Lib.hid (fun s (hs : s ∈ t.args) => hok.arg hs)
    have HWB := Lib.hid (fun k => wtL_bounds hr hok k)
    have hin := hok.heads t.head (by rw [T.hds_eq]; simp)
    have hwb := wo_bound hr hin
    have HWE := Lib.hid (wtT_eq g t)
    have HA := Lib.hid hA
    have HG := Lib.hid hG
    have hck := check_ok hok.1
    clear hA hG
    obtain ⟨W1, hW1⟩ : ∃ W1, w.alloc (tmCells t.head a t.args.length c) = W1 := ⟨_, rfl⟩
    have HF := Lib.hid (show Below w.heap.size w W1 from by rw [← hW1]; exact (Below.refl _ w).alloc (Nat.le_refl _) _)
    have hs1 : W1.heap.size = w.heap.size + 1 := by rw [← hW1]; simp
    have ht0 : W1.cell? ⟨w.heap.size, 0, none⟩ = some (.int .i64 t.head) := by rw [← hW1]; simp [go_sem]
    have ht1 : W1.cell? ⟨w.heap.size, 1, none⟩ = some (.slice a t.args.length c) := by rw [← hW1]; simp [go_sem]
    by_cases q1 : t.head < 0
    · have HD := Lib.hid (show wtT g t = 1 from by rw [wtT_eq, good_leaf hck.2.2 q1]; unfold wo; rw [if_pos q1]; rfl)
      clear hok hin hck
      go_enter Tryz.func91, Tryz.ntmps91
      go_wp2
      go_ret
      exact ⟨by rw [HD.out]; rfl, HF.out⟩
    have hlen : t.head.toNat < g.length := by rcases hin with h | h; omega; exact h
    obtain ⟨b, o, x, rfl, hbn, hs, hxw, hc0, hc1, hc2, hc3⟩ := HG.out.elem (i := t.head.toNat) hlen
    have hk0 : (0 : Int) ≤ t.head := by omega
    have hk1 : t.head < (g.length : Int) := by omega
    have hwx : wo g t.head = x.wt := by unfold wo; rw [if_neg q1, hs]
    have hbw : b < w.heap.size := by omega
    have hx1 : W1.cell? ⟨b, o + t.head.toNat * 4 + 2, none⟩ = some (.int .i64 x.wt) := (HF.out.cell (p := ⟨b, _, none⟩) hbw).trans hc2
    have HWX := Lib.hid hwx
    rw [hwx] at hwb
    clear hs hxw hc0 hc1 hc2 hc3 hok hck hwx
    go_enter Tryz.func91, Tryz.ntmps91
    go_wp2
    try rw [hW1]
    clear hW1
    go_loopw [5, 6] (fun n i wr => WtI g t (w.heap.size + 1) W1 n i wr) (fun _ i _ => t.args.length - (intOf i).toNat)
    case atStart => exact ⟨0, Nat.zero_le _, rfl, by rw [HWX.out]; simp [wtL], Below.refl _ _⟩
    case round =>
      obtain ⟨k, hk, rfl, rfl, hB⟩ := hrel
      have HB := Lib.hid hB
      have hbz := hB.size
      have hv1 : wr.cell? ⟨w.heap.size, 1, none⟩ = some (.slice a t.args.length c) := (hB.cell (p := ⟨w.heap.size, 1, none⟩) (by simp)).trans ht1
      have HBW := Lib.hid (show Below w.heap.size w wr from HF.out.trans (hB.mono (by omega)))
      clear hB hx1 ht0 ht1
      rw [HWX.out]
      have hkb := HWB.out k
      by_cases hlt : k < t.args.length
      · obtain ⟨b', o', s, a', c', rfl, hbn', hs, hswf, hc1, hc2, hA'⟩ := (HA.out.below (HBW.out.mono hn)).elem (i := k) hlt
        have hk2 : (0 : Int) ≤ (k : Int) := Int.natCast_nonneg _
        have hk3 : (k : Int) < (t.args.length : Int) := by omega
        have HSK := Lib.hid hs
        have CK := Lib.hid (IH.out s (HS.out s (List.mem_of_getElem? hs)) (HOK.out s (List.mem_of_getElem? hs)) n₀ (some ⟨b, o, none⟩) gc a' c' wr (by omega) (HG.out.below (HBW.out.mono hn)) hA')
        have hkb1 := HWB.out (k + 1)
        rw [wtL_take hs] at hkb1
        have HST := Lib.hid (wtL_take (g := g) hs)
        generalize wtL g (t.args.take k) = zk at *
        clear hs hswf hA'
        go_wp2_with fail
        refine CK.out.mono ?_
        rintro e w2 ⟨rfl, hb2⟩
        have HB2 := Lib.hid (HB.out.trans (hb2.mono (by omega)))
        clear hb2 CK
        generalize wtT g s = zs at *
        go_wp2
        go_roundw
        case rel => exact ⟨k + 1, by omega, by go_num, by rw [HST.out, HWX.out, Int.add_assoc], HB2.out⟩
        case measure => simp [intOf]; omega
      · obtain rfl : k = t.args.length := by omega
        have HE := Lib.hid (show wtT g t = x.wt + wtL g (t.args.take t.args.length) from by rw [HWE.out, HWX.out, List.take_length])
        go_wp2
        go_ret
        exact ⟨by rw [HE.out]; rfl, HBW.out⟩
set_option maxRecDepth 100000 in
set_option maxHeartbeats 2000000 in
theorem r7Weight_any (g : Sg) (t : T) (hsz : t.size ≤ 1000000000000) (n₀ : Nat) (ga : Option Addr) (gc : Nat) (a : Option Addr) (c : Nat) (w : World) (hn : n₀ ≤ w.heap.size) (hG : IsSg n₀ w g ga gc) (hA : IsArgs n₀ w t.args a c) :
    Calls Tryz.prog 67 #[.slice ga g.length gc, tm t.head a t.args.length c] w fun e w' => e = .returned (weightV g t) ∧ Below w.heap.size w w' := by
  obtain ⟨W1, hW1⟩ : ∃ W1, w.alloc (tmCells t.head a t.args.length c) = W1 := ⟨_, rfl⟩
  have L1 := Lib.hid (show ∀ W, Below W1.heap.size W1 W → W.cell? ⟨w.heap.size, 0, none⟩ = some (.int .i64 t.head) ∧ W.cell? ⟨w.heap.size, 1, none⟩ = some (.slice a t.args.length c) ∧ IsSg n₀ W g ga gc ∧ IsArgs n₀ W t.args a c ∧ Below w.heap.size w W ∧ n₀ ≤ W.heap.size from fun W hW => by
    have h0 : Below w.heap.size w W1 := by rw [← hW1]; exact (Below.refl _ w).alloc (Nat.le_refl _) _
    have h := h0.trans (hW.mono h0.size)
    exact ⟨(hW.cell (p := ⟨w.heap.size, 0, none⟩) (by rw [← hW1]; simp)).trans (by rw [← hW1]; simp [go_sem]), (hW.cell (p := ⟨w.heap.size, 1, none⟩) (by rw [← hW1]; simp)).trans (by rw [← hW1]; simp [go_sem]), hG.below (h.mono hn), hA.below (h.mono hn), h, Nat.le_trans hn h.size⟩)
  obtain ⟨c0, c1, _, _, _, _⟩ := L1.out W1 (Below.refl _ _)
  clear hG hA
  go_enter Tryz.func67, Tryz.ntmps67
  go_wp2_with fail
  try rw [hW1]
  obtain ⟨_, _, hG1, hA1, _, hn1⟩ := L1.out W1 (Below.refl _ _)
  refine (r7Term_any g t hsz n₀ ga gc a c W1 hn1 hG1 hA1).mono ?_
  rintro e w2 ⟨rfl, hb2⟩
  have B2 := Lib.hid hb2
  clear hb2 hG1 hA1 hW1 c0 c1
  obtain ⟨c0, c1, hG2, hA2, hb, hn2⟩ := L1.out w2 B2.out
  by_cases qe : errT g t = 0
  · have hwv : weightV g t = .tuple #[.int .i64 (wtT g t), .int .i64 0] := by unfold weightV; rw [if_pos qe]
    have HWV := Lib.hid hwv
    obtain ⟨hr, _⟩ := errT_ok qe
    have CW := Lib.hid (r7weight_any g hr t.size t (Nat.le_refl _) ((okT_iff hr).1 qe) n₀ ga gc a c w2 hn2 hG2 hA2)
    rw [qe]
    clear hG2 hA2 hb hwv hr qe
    go_wp2_with fail
    refine CW.out.mono ?_
    rintro e w3 ⟨rfl, hb3⟩
    have HB := Lib.hid (L1.out w3 (B2.out.trans (hb3.mono B2.out.size))).2.2.2.2.1
    clear hb3
    go_wp2
    refine bodyPost_ret (v := .tuple #[.int .i64 (wtT g t), .int .i64 0]) (by simp [results, Tryz.results67, go_sem]) rfl ?_
    exact ⟨by rw [HWV.out], HB.out⟩
  · obtain ⟨k, hk⟩ : ∃ k, errT g t = k := ⟨_, rfl⟩
    have hk0 : (k != 0) = true := by rw [← hk]; simpa using qe
    have HWV := Lib.hid (show weightV g t = .tuple #[.int .i64 0, .int .i64 k] from by unfold weightV; rw [if_neg qe, hk])
    have HB := Lib.hid hb
    rw [hk]
    clear hG2 hA2 hb hk qe
    go_wp2
    refine bodyPost_ret (v := .tuple #[.int .i64 0, .int .i64 k]) (by simp [results, Tryz.results67, go_sem]) rfl ?_
    exact ⟨by rw [HWV.out], HB.out⟩
def CoI (t : T) (h : Int) (B : Nat) (w1 : World) (n i : Value) (wr : World) : Prop := ∃ k : Nat, k ≤ t.args.length ∧ i = .int .i64 k ∧ n = .int .i64 (((if t.head = h then 1 else 0) + (T.hdsL (t.args.take k)).count h : Nat) : Int) ∧ Below B w1 wr
theorem count_hds (t : T) (h : Int) : t.hds.count h = (if t.head = h then 1 else 0) + (T.hdsL t.args).count h := by
  rw [T.hds_eq, List.count_cons]
  by_cases e : t.head = h
  · simp [e]; omega
  · simp [e]
set_option maxRecDepth 100000 in
set_option maxHeartbeats 4000000 in
theorem r7Count_any (v : Int) (hv0 : 0 ≤ v) (hv1 : v ≤ 1000000) : ∀ (N : Nat) (t : T), t.size ≤ N → t.size ≤ 1000000000000 → ∀ (n₀ : Nat) (a : Option Addr) (c : Nat) (w : World), n₀ ≤ w.heap.size → IsArgs n₀ w t.args a c →
    Calls Tryz.prog 151 #[tm t.head a t.args.length c, .int .i64 v] w fun e w' => e = .returned (.int .i64 ((t.hds.count (-1 - v) : Nat) : Int)) ∧ Below w.heap.size w w' := by
  intro N
  induction N with
  | zero => intro t ht; have := T.size_pos t; omega
  | succ N ih =>
    intro t ht hbig n₀ a c w hn hA
    have IH := Lib.hid ih
    clear ih
    have hlc : t.args.length ≤ c ∧ c ≤ maxLen := ⟨hA.1, hA.2.1⟩
    unfold maxLen at hlc
    obtain ⟨hl1, hl2⟩ := hlc
    have HS := Lib.hid (show ∀ s ∈ t.args, s.size ≤ N ∧ s.size ≤ 1000000000000 from fun s hs => by
      obtain ⟨i, hi⟩ := List.getElem?_of_mem hs
      have h1 := T.size_lt_of_mem hi
      have h2 := T.size_eq t
      exact ⟨by omega, by omega⟩)
    have HCB := Lib.hid (fun k => show (T.hdsL (t.args.take k)).count (-1 - v) ≤ 1000000000000 from by
      have h1 : (T.hdsL (t.args.take k)).count (-1 - v) ≤ (T.hdsL (t.args.take k)).length := List.count_le_length
      rw [T.hdsL_length] at h1
      have h3 := T.sizes_append (t.args.take k) (t.args.drop k)
      rw [List.take_append_drop] at h3
      have h4 := T.size_eq t
      omega)
    have HCH := Lib.hid (count_hds t (-1 - v))
    have HA := Lib.hid hA
    clear hA
    obtain ⟨W1, hW1⟩ : ∃ W1, w.alloc (tmCells t.head a t.args.length c) = W1 := ⟨_, rfl⟩
    have HF := Lib.hid (show Below w.heap.size w W1 from by rw [← hW1]; exact (Below.refl _ w).alloc (Nat.le_refl _) _)
    have hs1 : W1.heap.size = w.heap.size + 1 := by rw [← hW1]; simp
    have ht0 : W1.cell? ⟨w.heap.size, 0, none⟩ = some (.int .i64 t.head) := by rw [← hW1]; simp [go_sem]
    have ht1 : W1.cell? ⟨w.heap.size, 1, none⟩ = some (.slice a t.args.length c) := by rw [← hW1]; simp [go_sem]
    obtain ⟨u, hu⟩ : ∃ u : Nat, (if t.head = -1 - v then 1 else 0) = u := ⟨_, rfl⟩
    have hu1 : u ≤ 1 := by rw [← hu]; split <;> omega
    have HU := Lib.hid hu
    have hcase : (decide (t.head = -1 - v) = true ∧ (t.head == -1 - v) = true ∧ u = 1) ∨ (decide (t.head = -1 - v) = false ∧ (t.head == -1 - v) = false ∧ u = 0) := by
      by_cases e : t.head = -1 - v
      · exact .inl ⟨decide_eq_true e, by simpa using e, by rw [← hu, if_pos e]⟩
      · exact .inr ⟨decide_eq_false e, by simpa using e, by rw [← hu, if_neg e]⟩
    clear hu
    rcases hcase with ⟨e, e', rfl⟩ | ⟨e, e', rfl⟩
    all_goals
      go_enter Tryz.func151, Tryz.ntmps151
      go_wp2
      try rw [hW1]
      clear hW1
      go_loopw [5, 6] (fun n i wr => CoI t (-1 - v) (w.heap.size + 1) W1 n i wr) (fun _ i _ => t.args.length - (intOf i).toNat)
      case atStart => exact ⟨0, Nat.zero_le _, rfl, by rw [HU.out]; simp [T.hdsL], Below.refl _ _⟩
      case round =>
        obtain ⟨k, hk, rfl, rfl, hB⟩ := hrel
        have HB := Lib.hid hB
        have hbz := hB.size
        have hv1 : wr.cell? ⟨w.heap.size, 1, none⟩ = some (.slice a t.args.length c) := (hB.cell (p := ⟨w.heap.size, 1, none⟩) (by simp)).trans ht1
        have HBW := Lib.hid (show Below w.heap.size w wr from HF.out.trans (hB.mono (by omega)))
        clear hB ht0 ht1
        rw [HU.out]
        have hkb := HCB.out k
        by_cases hlt : k < t.args.length
        · obtain ⟨b', o', s, a', c', rfl, hbn', hs, hswf, hc1, hc2, hA'⟩ := (HA.out.below (HBW.out.mono hn)).elem (i := k) hlt
          have hk2 : (0 : Int) ≤ (k : Int) := Int.natCast_nonneg _
          have hk3 : (k : Int) < (t.args.length : Int) := by omega
          have CK := Lib.hid (IH.out s (HS.out s (List.mem_of_getElem? hs)).1 (HS.out s (List.mem_of_getElem? hs)).2 n₀ a' c' wr (by omega) hA')
          have hkb1 := HCB.out (k + 1)
          rw [hdsL_take hs, List.count_append] at hkb1
          have HST := Lib.hid (show (T.hdsL (t.args.take (k + 1))).count (-1 - v) = (T.hdsL (t.args.take k)).count (-1 - v) + s.hds.count (-1 - v) from by rw [hdsL_take hs, List.count_append])
          generalize (T.hdsL (t.args.take k)).count (-1 - v) = zk at *
          clear hs hswf hA'
          go_wp2_with fail
          refine CK.out.mono ?_
          rintro e w2 ⟨rfl, hb2⟩
          have HB2 := Lib.hid (HB.out.trans (hb2.mono (by omega)))
          clear hb2 CK
          generalize s.hds.count (-1 - v) = zs at *
          go_wp2
          go_roundw
          case rel => exact ⟨k + 1, by omega, by go_num, by rw [HST.out, HU.out]; exact congrArg (fun x : Int => Value.int .i64 x) (by omega), HB2.out⟩
          case measure => simp [intOf]; omega
        · obtain rfl : k = t.args.length := by omega
          have HE := Lib.hid (show ((t.hds.count (-1 - v) : Nat) : Int) = ((_ + (T.hdsL (t.args.take t.args.length)).count (-1 - v) : Nat) : Int) from by rw [HCH.out, HU.out, List.take_length])
          go_wp2
          go_ret
          exact ⟨by rw [HE.out]; rfl, HBW.out⟩
end Go.Proofs.YtpncmdlbmnmahaaGreat

/- Contracts of the document's answer for terms compared (layer 8). -/
namespace Go.Proofs.YtpncmdlbmnmahaaGreat
set_option linter.unusedVariables false
set_option linter.unusedSimpArgs false
open Go.RowKit
theorem rv_isVars (t : T) : IsVars t.rv t := by rw [T.rv_eq]; exact isVars_vars t
theorem rv_le {t : T} (hb : bad (T.subs 1 t) = false) : ∀ v ∈ t.rv, 0 ≤ v ∧ v ≤ 255 := fun v hv => by
  obtain ⟨x, hx, h0, rfl⟩ := (rv_isVars t v).1 hv
  have := vars_low hb x hx h0
  omega
def OftI (a b : T) (w1 : World) (i : Value) (wr : World) : Prop := ∃ k : Nat, k ≤ b.rv.length ∧ i = .int .i64 k ∧ (∀ (j : Nat) (v : Int), j < k → b.rv[j]? = some v → b.hds.count (-1 - v) ≤ a.hds.count (-1 - v)) ∧ Below w1.heap.size w1 wr
theorem oftB_true {a b : T} (h : ∀ (j : Nat) (v : Int), j < b.rv.length → b.rv[j]? = some v → b.hds.count (-1 - v) ≤ a.hds.count (-1 - v)) : oftB a b = true := by
  rw [oft_iff, oft_vars (rv_isVars b)]
  intro v hv
  obtain ⟨j, hj⟩ := List.getElem?_of_mem hv
  exact h j v (List.getElem?_eq_some_iff.1 hj).1 hj
theorem oftB_false {a b : T} {j : Nat} {v : Int} (hv : b.rv[j]? = some v) (h : a.hds.count (-1 - v) < b.hds.count (-1 - v)) : oftB a b = false := by
  cases e : oftB a b with
  | false => rfl
  | true =>
    have := (oft_vars (rv_isVars b)).1 (oft_iff.1 e) v (List.mem_of_getElem? hv)
    omega
set_option maxRecDepth 100000 in
set_option maxHeartbeats 4000000 in
theorem often_any (a b : T) (hza : a.size ≤ 1000000000) (hzb : b.size ≤ 1000000000) (hbb : bad (T.subs 1 b) = false) (n₀ : Nat) (pa : Option Addr) (ca : Nat) (pb : Option Addr) (cb : Nat) (w : World) (hn : n₀ ≤ w.heap.size) (hbw : (Lit.int .i64 b.head).wf = true) (hA : IsArgs n₀ w a.args pa ca) (hB : IsArgs n₀ w b.args pb cb) :
    Calls Tryz.prog 136 #[tm a.head pa a.args.length ca, tm b.head pb b.args.length cb] w fun e w' => e = .returned (.bool (oftB a b)) ∧ Below w.heap.size w w' := by
  have HRV := Lib.hid (rv_le hbb)
  have HBW := Lib.hid hbw
  have hrl : b.rv.length ≤ 1000000000 := by have := T.rv_length b; omega
  have d0 := (((((Later.below (Below.refl _ w)).and (later_args (hB.mono hn))).and (later_args (hA.mono hn))).push (Below.refl _ _) a.head pa a.args.length ca).push (Below.refl _ _) b.head pb b.args.length cb)
  simp only [heap_alloc_size] at d0
  have D := Lib.hid d0
  clear hA hB d0 hbw
  have hcnt : ∀ (t : T) (v : Int), t.size ≤ 1000000000 → t.hds.count (-1 - v) ≤ 1000000000 := fun t v ht => Nat.le_trans List.count_le_length (by rw [T.hds_length]; exact ht)
  have HCA := Lib.hid (fun v => hcnt a v hza)
  have HCB := Lib.hid (fun v => hcnt b v hzb)
  clear hcnt
  go_enter Tryz.func136, Tryz.ntmps136
  go_wp2_with fail
  generalize (w.alloc (tmCells a.head pa a.args.length ca)).alloc (tmCells b.head pb b.args.length cb) = w1 at D ⊢
  generalize hb0 : w.heap.size = b0 at D ⊢
  have HB0 := Lib.hid hb0
  clear hb0
  refine (refVars_any b.size b (Nat.le_refl _) (by omega) w1.heap.size pb cb w1 (Nat.le_refl _) HBW.out D.out.now.2.2.2.1).mono ?_
  rintro e w2 ⟨av, cv, rfl, hI, _, hb⟩
  have hvl : b.rv.length ≤ cv ∧ cv ≤ maxLen := ⟨hI.1, hI.2.1⟩
  unfold maxLen at hvl
  obtain ⟨hvl1, hvl2⟩ := hvl
  have D2 := Lib.hid ((D.out.mv hb).and (later_is hI))
  clear hb hI D
  go_wp2
  go_loopw [6] (fun i wr => OftI a b w2 i wr) (fun i _ => b.rv.length - (intOf i).toNat)
  case atStart => exact ⟨0, Nat.zero_le _, rfl, fun j v hj => by omega, Below.refl _ _⟩
  case round =>
    obtain ⟨k, hk, rfl, hpre, hB⟩ := hrel
    have HPRE := Lib.hid hpre
    have D3 := Lib.hid (D2.out.mv hB)
    have HB := Lib.hid hB
    clear hpre hB
    by_cases hlt : k < b.rv.length
    · obtain ⟨bv, ov, v, rfl, hbn, hv, hcv⟩ := D3.out.now.1.elem (k := k) hlt
      have hk0 : (0 : Int) ≤ (k : Int) := Int.natCast_nonneg _
      have hk1 : (k : Int) < (b.rv.length : Int) := by omega
      obtain ⟨hv0, hv1⟩ := HRV.out v (List.mem_of_getElem? hv)
      have HV := Lib.hid hv
      have hca := HCA.out v
      have hcb := HCB.out v
      clear hv
      have KP := Lib.hid (show ∀ W, Below wr.heap.size wr W → (W.cell? ⟨b0, 0, none⟩ = some (.int .i64 a.head) ∧ W.cell? ⟨b0, 1, none⟩ = some (.slice pa a.args.length ca)) ∧ (W.cell? ⟨b0 + 1, 0, none⟩ = some (.int .i64 b.head) ∧ W.cell? ⟨b0 + 1, 1, none⟩ = some (.slice pb b.args.length cb)) ∧ W.cell? ⟨bv, ov + k, none⟩ = some (.int .i64 v) ∧ Below wr.heap.size wr W from fun W hW => by
        obtain ⟨_, ⟨y0, y1⟩, ⟨x0, x1⟩, _⟩ := D3.out W hW
        exact ⟨⟨x0, x1⟩, ⟨y0, y1⟩, (hW.cell (p := ⟨bv, _, none⟩) hbn).trans hcv, hW⟩)
      obtain ⟨⟨x0, x1⟩, ⟨y0, y1⟩, _⟩ := KP.out wr (Below.refl _ _)
      have CA := Lib.hid (fun (W : World) (hW : Below wr.heap.size wr W) => r7Count_any v hv0 (by omega) a.size a (Nat.le_refl _) (by omega) W.heap.size pa ca W (Nat.le_refl _) (D3.out W hW).2.2.2.1)
      have CB := Lib.hid (fun (W : World) (hW : Below wr.heap.size wr W) => r7Count_any v hv0 (by omega) b.size b (Nat.le_refl _) (by omega) W.heap.size pb cb W (Nat.le_refl _) (D3.out W hW).2.2.2.2.1)
      by_cases hq : a.hds.count (-1 - v) < b.hds.count (-1 - v)
      · have HE := Lib.hid (oftB_false HV.out hq)
        have hq' : ((a.hds.count (-1 - v) : Nat) : Int) < ((b.hds.count (-1 - v) : Nat) : Int) := by omega
        generalize a.hds.count (-1 - v) = na at *
        generalize b.hds.count (-1 - v) = nb at *
        go_wp2_with fail
        refine wp_region_noPanic ?_
        go_region_held3 (fun w' => (w'.cell? ⟨b0, 0, none⟩ = some (.int .i64 a.head) ∧ w'.cell? ⟨b0, 1, none⟩ = some (.slice pa a.args.length ca)) ∧ (w'.cell? ⟨b0 + 1, 0, none⟩ = some (.int .i64 b.head) ∧ w'.cell? ⟨b0 + 1, 1, none⟩ = some (.slice pb b.args.length cb)) ∧ w'.cell? ⟨bv, ov + k, none⟩ = some (.int .i64 v) ∧ Below wr.heap.size wr w')
          (first
            | exact KP.out _ (Below.refl _ _)
            | exact KP.out _ (Below.refl _ _).drew
            | exact KP.out _ hB)
          (first
            | (go_at_call 151; with_reducible refine (CA.out _ (‹_ ∧ _ ∧ _ ∧ Below wr.heap.size wr _›.2.2.2)).mono ?_; rintro e u1 ⟨rfl, hu⟩; have hB := bl_call (‹_ ∧ _ ∧ _ ∧ Below wr.heap.size wr _›.2.2.2) hu)
            | (go_at_call 151; with_reducible refine (CB.out _ (‹_ ∧ _ ∧ _ ∧ Below wr.heap.size wr _›.2.2.2)).mono ?_; rintro e u2 ⟨rfl, hu2⟩; have hB := bl_call (‹_ ∧ _ ∧ _ ∧ Below wr.heap.size wr _›.2.2.2) hu2; have hfin := hB))
        all_goals
          refine NoPanic.normal ?_
          have HQ := Lib.hid (D3.out _ hfin).2.2.2.2.2
          go_wp2
          go_ret
          exact ⟨by rw [HE.out]; rfl, by rw [HB0.out]; exact HQ.out⟩
      · have HLE := Lib.hid (show b.hds.count (-1 - v) ≤ a.hds.count (-1 - v) from by omega)
        have hq' : ¬ ((a.hds.count (-1 - v) : Nat) : Int) < ((b.hds.count (-1 - v) : Nat) : Int) := by omega
        have HST := Lib.hid (show ∀ (j : Nat) (z : Int), j < k + 1 → b.rv[j]? = some z → b.hds.count (-1 - z) ≤ a.hds.count (-1 - z) from fun j z hj hz => by
          by_cases e : j = k
          · subst e; rw [HV.out] at hz; obtain rfl := Option.some.inj hz; exact HLE.out
          · exact HPRE.out j z (by omega) hz)
        generalize a.hds.count (-1 - v) = na at *
        generalize b.hds.count (-1 - v) = nb at *
        go_wp2_with fail
        refine wp_region_noPanic ?_
        go_region_held3 (fun w' => (w'.cell? ⟨b0, 0, none⟩ = some (.int .i64 a.head) ∧ w'.cell? ⟨b0, 1, none⟩ = some (.slice pa a.args.length ca)) ∧ (w'.cell? ⟨b0 + 1, 0, none⟩ = some (.int .i64 b.head) ∧ w'.cell? ⟨b0 + 1, 1, none⟩ = some (.slice pb b.args.length cb)) ∧ w'.cell? ⟨bv, ov + k, none⟩ = some (.int .i64 v) ∧ Below wr.heap.size wr w')
          (first
            | exact KP.out _ (Below.refl _ _)
            | exact KP.out _ (Below.refl _ _).drew
            | exact KP.out _ hB)
          (first
            | (go_at_call 151; with_reducible refine (CA.out _ (‹_ ∧ _ ∧ _ ∧ Below wr.heap.size wr _›.2.2.2)).mono ?_; rintro e u1 ⟨rfl, hu⟩; have hB := bl_call (‹_ ∧ _ ∧ _ ∧ Below wr.heap.size wr _›.2.2.2) hu)
            | (go_at_call 151; with_reducible refine (CB.out _ (‹_ ∧ _ ∧ _ ∧ Below wr.heap.size wr _›.2.2.2)).mono ?_; rintro e u2 ⟨rfl, hu2⟩; have hB := bl_call (‹_ ∧ _ ∧ _ ∧ Below wr.heap.size wr _›.2.2.2) hu2; have hfin := hB))
        all_goals
          refine NoPanic.normal ?_
          have HFIN := Lib.hid (HB.out.trans (hfin.mono HB.out.size))
          go_wp2
          go_roundw
          case rel => exact ⟨k + 1, by omega, by go_num, HST.out, HFIN.out⟩
          case measure => simp [intOf]; omega
    · obtain rfl : k = b.rv.length := by omega
      have HE := Lib.hid (oftB_true HPRE.out)
      have HQ := Lib.hid D3.out.now.2.2.2.2.2
      go_wp2
      go_ret
      exact ⟨by rw [HE.out]; rfl, by rw [HB0.out]; exact HQ.out⟩
end Go.Proofs.YtpncmdlbmnmahaaGreat
