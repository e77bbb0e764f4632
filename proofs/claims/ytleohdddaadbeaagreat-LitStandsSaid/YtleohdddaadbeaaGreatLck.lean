/- Contract of lit's Check. -/
import Derived.Test.YtleohdddaadbeaaGreatQDa
import Derived.Test.YtleohdddaadbeaaGreatQBf
namespace Go.Proofs.YtleohdddaadbeaaGreat
set_option linter.unusedVariables false
set_option linter.unusedSimpArgs false
open Go.RowKit

/-- A claim: a literal with its signature. -/
abbrev ClV (g : Sg) (ga : Option Addr) (gc : Nat) (x : LV) : Value := .agg #[.slice ga g.length gc, .bool x.n, .int .i64 x.l.head, .slice x.pa x.l.args.length x.ca, .int .i64 x.r.head, .slice x.pb x.r.args.length x.cb]
abbrev ClO (g : Sg) (ga : Option Addr) (gc : Nat) (x : LV) : Obj := .cells #[.slice ga g.length gc, .bool x.n, .int .i64 x.l.head, .slice x.pa x.l.args.length x.ca, .int .i64 x.r.head, .slice x.pb x.r.args.length x.cb] 57
/-- A variable that holds a claim. -/
def Clc (b : Nat) (g : Sg) (ga : Option Addr) (gc : Nat) (x : LV) (X : World) : Prop :=
  X.cell? ⟨b, 0, none⟩ = some (.slice ga g.length gc) ∧ X.cell? ⟨b, 1, none⟩ = some (.bool x.n) ∧ X.cell? ⟨b, 2, none⟩ = some (.int .i64 x.l.head) ∧ X.cell? ⟨b, 3, none⟩ = some (.slice x.pa x.l.args.length x.ca) ∧ X.cell? ⟨b, 4, none⟩ = some (.int .i64 x.r.head) ∧ X.cell? ⟨b, 5, none⟩ = some (.slice x.pb x.r.args.length x.cb)
theorem later_clc (W : World) (g : Sg) (ga : Option Addr) (gc : Nat) (x : LV) : Later (Clc W.heap.size g ga gc x) (W.alloc (ClO g ga gc x)) := fun X hX =>
  ⟨(hX.cell (p := ⟨W.heap.size, 0, none⟩) (by simp)).trans (by simp [go_sem]), (hX.cell (p := ⟨W.heap.size, 1, none⟩) (by simp)).trans (by simp [go_sem]), (hX.cell (p := ⟨W.heap.size, 2, none⟩) (by simp)).trans (by simp [go_sem]),
    (hX.cell (p := ⟨W.heap.size, 3, none⟩) (by simp)).trans (by simp [go_sem]), (hX.cell (p := ⟨W.heap.size, 4, none⟩) (by simp)).trans (by simp [go_sem]), (hX.cell (p := ⟨W.heap.size, 5, none⟩) (by simp)).trans (by simp [go_sem])⟩
theorem Later.pushCl {F : World → Prop} {W W' : World} (k : Later F W) (hb : Below W.heap.size W W') (g : Sg) (ga : Option Addr) (gc : Nat) (x : LV) : Later (fun X => Clc W'.heap.size g ga gc x X ∧ F X) (W'.alloc (ClO g ga gc x)) :=
  (k.mv (hb.alloc hb.size _)).and (later_clc W' g ga gc x)

set_option maxRecDepth 100000 in
set_option maxHeartbeats 2000000 in
theorem clLeft_any (g : Sg) (x : LV) (hx : x.sz) (n₀ : Nat) (ga : Option Addr) (gc : Nat) (w : World) (hn : n₀ ≤ w.heap.size) (hG : IsSg n₀ w g ga gc) (hX : IsLv n₀ w x) :
    Calls Tryz.prog 30 #[ClV g ga gc x] w fun e w' => e = .returned (.int .i64 (errT g x.l)) ∧ Below w.heap.size w w' := by
  have hF : Below w.heap.size w (w.alloc (ClO g ga gc x)) := (Below.refl _ w).alloc (Nat.le_refl _) _
  have hX1 := hX.below (hF.mono hn)
  have C := Lib.hid (sgTerm_any g x.l hx.1 n₀ ga gc x.pa x.ca (w.alloc (ClO g ga gc x)) (by simp; omega) (hG.below (hF.mono hn)) hX.lw hX1.la)
  have HF := Lib.hid hF
  clear hX hF hX1 hG
  go_enter Tryz.func30, Tryz.ntmps30
  go_wp2_with fail
  refine C.out.mono ?_
  rintro e w2 ⟨rfl, hb⟩
  have HB := Lib.hid (HF.out.trans (hb.mono HF.out.size))
  clear hb
  go_wp2
  go_ret
  exact ⟨rfl, HB.out⟩

set_option maxRecDepth 100000 in
set_option maxHeartbeats 2000000 in
theorem clRight_any (g : Sg) (x : LV) (hx : x.sz) (n₀ : Nat) (ga : Option Addr) (gc : Nat) (w : World) (hn : n₀ ≤ w.heap.size) (hG : IsSg n₀ w g ga gc) (hX : IsLv n₀ w x) :
    Calls Tryz.prog 31 #[ClV g ga gc x] w fun e w' => e = .returned (.int .i64 (errT g x.r)) ∧ Below w.heap.size w w' := by
  have hF : Below w.heap.size w (w.alloc (ClO g ga gc x)) := (Below.refl _ w).alloc (Nat.le_refl _) _
  have hX1 := hX.below (hF.mono hn)
  have C := Lib.hid (sgTerm_any g x.r hx.2 n₀ ga gc x.pb x.cb (w.alloc (ClO g ga gc x)) (by simp; omega) (hG.below (hF.mono hn)) hX.rw hX1.ra)
  have HF := Lib.hid hF
  clear hX hF hX1 hG
  go_enter Tryz.func31, Tryz.ntmps31
  go_wp2_with fail
  refine C.out.mono ?_
  rintro e w2 ⟨rfl, hb⟩
  have HB := Lib.hid (HF.out.trans (hb.mono HF.out.size))
  clear hb
  go_wp2
  go_ret
  exact ⟨rfl, HB.out⟩

/-- Is its symbol in the signature, or a variable? -/
theorem head_lt {g : Sg} {t : T} (h : errT g t = 0) (h0 : 0 ≤ t.head) : t.head < (g.length : Int) := by
  have hf := (errT_ok h).2.2.1
  rw [fitsT_eq] at hf
  unfold armOk at hf
  cases hx : g[t.head.toNat]? with
  | none => rw [hx] at hf; simp at hf; omega
  | some x => have := (List.getElem?_eq_some_iff.1 hx).1; omega

set_option maxRecDepth 100000 in
set_option maxHeartbeats 2000000 in
theorem clAtom_any (g : Sg) (x : LV) (t : T) (ht : errT g t = 0) (n₀ : Nat) (ga : Option Addr) (gc : Nat) (a : Option Addr) (c : Nat) (w : World) (hn : n₀ ≤ w.heap.size) (hG : IsSg n₀ w g ga gc) :
    Calls Tryz.prog 48 #[ClV g ga gc x, tm t.head a t.args.length c] w fun e w' => e = .returned (.bool (predS g t.head)) ∧ Below w.heap.size w w' := by
  have hlg : g.length ≤ gc ∧ gc ≤ maxLen := ⟨hG.1, hG.2.1⟩
  unfold maxLen at hlg
  obtain ⟨hl3, hl4⟩ := hlg
  have HF := Lib.hid (show Below w.heap.size w ((w.alloc (ClO g ga gc x)).alloc (tmCells t.head a t.args.length c)) from ((Below.refl _ w).alloc (Nat.le_refl _) _).alloc (by simp) _)
  by_cases q1 : t.head < 0
  · have HD := Lib.hid (show predS g t.head = false from by unfold predS; simp [show ¬ 0 ≤ t.head from by omega])
    clear hG ht
    go_enter Tryz.func48, Tryz.ntmps48
    go_wp2
    go_ret
    exact ⟨by rw [HD.out]; rfl, HF.out⟩
  · have hk0 : (0 : Int) ≤ t.head := by omega
    have hk1 := head_lt ht hk0
    obtain ⟨b, o, y, rfl, hbn, hs, hxw, hc0, hc1, hc2, hc3⟩ := hG.elem (i := t.head.toNat) (by omega)
    have HD := Lib.hid (show predS g t.head = y.tr from by unfold predS; rw [hs]; simp [hk0])
    have hbw : b < w.heap.size := by omega
    clear hG hs hxw hc0 hc1 hc2 ht q1
    go_enter Tryz.func48, Tryz.ntmps48
    go_wp2
    go_ret
    exact ⟨by rw [HD.out]; cases y.tr <;> rfl, HF.out⟩

set_option maxRecDepth 100000 in
set_option maxHeartbeats 4000000 in
theorem clSorts_any (g : Sg) (x : LV) (h1 : errT g x.l = 0) (h2 : errT g x.r = 0) (n₀ : Nat) (ga : Option Addr) (gc : Nat) (w : World) (hn : n₀ ≤ w.heap.size) (hG : IsSg n₀ w g ga gc) (hX : IsLv n₀ w x) :
    Calls Tryz.prog 32 #[ClV g ga gc x] w fun e w' => e = .returned (.int .i64 (sortE g x.l x.r)) ∧ Below w.heap.size w w' := by
  have d0 := (((Later.below (Below.refl _ w)).and (later_lv (hX.mono hn))).and (later_sg (hG.mono hn))).pushCl (Below.refl _ _) g ga gc x
  have C1 := Lib.hid (fun (W : World) (hG : IsSg W.heap.size W g ga gc) => clAtom_any g x x.l h1 W.heap.size ga gc x.pa x.ca W (Nat.le_refl _) hG)
  have C2 := Lib.hid (fun (W : World) (hG : IsSg W.heap.size W g ga gc) => clAtom_any g x x.r h2 W.heap.size ga gc x.pb x.cb W (Nat.le_refl _) hG)
  have D := Lib.hid d0
  clear d0 hG hX h1 h2
  go_enter Tryz.func32, Tryz.ntmps32
  go_wp2_with fail
  generalize w.alloc (ClO g ga gc x) = w1 at D ⊢
  generalize hb0 : w.heap.size = b0 at D ⊢
  have HB0 := Lib.hid hb0
  clear hb0
  refine (C1.out w1 D.out.now.2.1).mono ?_
  rintro e w2 ⟨rfl, hb⟩
  have D2 := Lib.hid (D.out.mv hb)
  clear hb D
  obtain ⟨⟨x0, x1, x2, x3, x4, x5⟩, _⟩ := D2.out.now
  obtain ⟨p, hp⟩ : ∃ p, predS g x.l.head = p := ⟨_, rfl⟩
  have HP := Lib.hid hp
  rw [hp]
  cases p with
  | true =>
    by_cases hr : x.r.head = 0
    · have HS := Lib.hid (show sortE g x.l x.r = 0 from by unfold sortE; rw [if_pos hp, if_pos hr])
      have HQ := Lib.hid D2.out.now.2.2.2
      rw [hr] at x4
      clear hr hp
      go_wp2
      go_ret
      exact ⟨by rw [HS.out]; rfl, by rw [HB0.out]; exact HQ.out⟩
    · have HS := Lib.hid (show sortE g x.l x.r = 10 from by unfold sortE; rw [if_pos hp, if_neg hr])
      have hr' : (x.r.head == 0) = false := by simpa using hr
      clear hr hp
      go_wp2_with fail
      refine (C1.out w2 D2.out.now.2.1).mono ?_
      clear x0 x1 x2 x3 x4 x5
      rintro e w3 ⟨rfl, hb⟩
      have HQ := Lib.hid (D2.out.mv hb).now.2.2.2
      clear hb D2
      rw [HP.out]
      go_wp2
      go_ret
      exact ⟨by rw [HS.out]; rfl, by rw [HB0.out]; exact HQ.out⟩
  | false =>
    have HS := Lib.hid (show sortE g x.l x.r = if predS g x.r.head then 10 else 0 from by unfold sortE; rw [if_neg (by rw [hp]; decide)])
    clear hp
    go_wp2_with fail
    refine (C1.out w2 D2.out.now.2.1).mono ?_
    clear x0 x1 x2 x3 x4 x5
    rintro e w3 ⟨rfl, hb⟩
    have D3 := Lib.hid (D2.out.mv hb)
    clear hb D2
    rw [HP.out]
    obtain ⟨⟨x0, x1, x2, x3, x4, x5⟩, _⟩ := D3.out.now
    go_wp2_with fail
    refine (C2.out w3 D3.out.now.2.1).mono ?_
    clear x0 x1 x2 x3 x4 x5
    rintro e w4 ⟨rfl, hb⟩
    have HQ := Lib.hid (D3.out.mv hb).now.2.2.2
    clear hb D3
    cases hq : predS g x.r.head with
    | true =>
      have HT := Lib.hid (show sortE g x.l x.r = 10 from by rw [HS.out, hq]; rfl)
      clear hq
      go_wp2
      go_ret
      exact ⟨by rw [HT.out]; rfl, by rw [HB0.out]; exact HQ.out⟩
    | false =>
      have HT := Lib.hid (show sortE g x.l x.r = 0 from by rw [HS.out, hq]; rfl)
      clear hq
      go_wp2
      go_ret
      exact ⟨by rw [HT.out]; rfl, by rw [HB0.out]; exact HQ.out⟩

abbrev fnV (f : Nat) : Value := .func (.func f) #[] #[]
/-- The three tests in memory. -/
def TsM (bt : Nat) (X : World) : Prop := X.cell? ⟨bt, 0, none⟩ = some (fnV 30) ∧ X.cell? ⟨bt, 1, none⟩ = some (fnV 31) ∧ X.cell? ⟨bt, 2, none⟩ = some (fnV 32)
def TeI (g : Sg) (x : LV) (w1 : World) (i : Value) (wr : World) : Prop :=
  Below w1.heap.size w1 wr ∧ (i = .int .i64 0 ∨ (i = .int .i64 1 ∧ errT g x.l = 0) ∨ (i = .int .i64 2 ∧ errT g x.l = 0 ∧ errT g x.r = 0) ∨ (i = .int .i64 3 ∧ errL g x.l x.r = 0))

set_option maxRecDepth 100000 in
set_option maxHeartbeats 4000000 in
/-- The tests of a literal, one by one. -/
theorem litFirst_any (g : Sg) (x : LV) (hx : x.sz) (n₀ : Nat) (ga : Option Addr) (gc : Nat) (bt : Nat) (w : World) (hn : n₀ ≤ w.heap.size) (hG : IsSg n₀ w g ga gc) (hX : IsLv n₀ w x) (hbt : bt < w.heap.size) (ht : TsM bt w) :
    Calls Tryz.prog 29 #[ClV g ga gc x, .slice (some ⟨bt, 0, none⟩) 3 3] w fun e w' => e = .returned (.int .i64 (errL g x.l x.r)) ∧ Below w.heap.size w w' := by
  have hT : Later (TsM bt) w := fun X hX => ⟨(hX.cell (p := ⟨bt, 0, none⟩) hbt).trans ht.1, (hX.cell (p := ⟨bt, 1, none⟩) hbt).trans ht.2.1, (hX.cell (p := ⟨bt, 2, none⟩) hbt).trans ht.2.2⟩
  have d0 := ((((Later.below (Below.refl _ w)).and (later_lv (hX.mono hn))).and (later_sg (hG.mono hn))).and hT).pushCl (Below.refl _ _) g ga gc x
  have C1 := Lib.hid (fun (W : World) (hG : IsSg W.heap.size W g ga gc) (hX : IsLv W.heap.size W x) => clLeft_any g x hx W.heap.size ga gc W (Nat.le_refl _) hG hX)
  have C2 := Lib.hid (fun (W : World) (hG : IsSg W.heap.size W g ga gc) (hX : IsLv W.heap.size W x) => clRight_any g x hx W.heap.size ga gc W (Nat.le_refl _) hG hX)
  have C3 := Lib.hid (fun (h1 : errT g x.l = 0) (h2 : errT g x.r = 0) (W : World) (hG : IsSg W.heap.size W g ga gc) (hX : IsLv W.heap.size W x) => clSorts_any g x h1 h2 W.heap.size ga gc W (Nat.le_refl _) hG hX)
  have D := Lib.hid d0
  have HBT := Lib.hid hbt
  have eg1 := enters_of Tryz.func30 (by kernel_rfl) rfl
  have eg2 := enters_of Tryz.func31 (by kernel_rfl) rfl
  have eg3 := enters_of Tryz.func32 (by kernel_rfl) rfl
  have hbs : bt < w.heap.size + 1 := by omega
  clear d0 hG hX hT ht
  go_enter Tryz.func29, Tryz.ntmps29
  go_wp2
  have hs1 : (w.alloc (ClO g ga gc x)).heap.size = w.heap.size + 1 := by simp
  generalize w.alloc (ClO g ga gc x) = w1 at D hs1 ⊢
  go_loopw [10] (fun i wr => TeI g x w1 i wr) (fun i _ => 3 - (intOf i).toNat)
  case atStart => exact ⟨Below.refl _ _, .inl rfl⟩
  case round =>
    obtain ⟨hB, hk⟩ := hrel
    have hbz := hB.size
    have HB := Lib.hid hB
    have D1 := Lib.hid (D.out.mv hB)
    have hbw : bt < wr.heap.size := by omega
    clear hB
    rcases hk with rfl | ⟨rfl, h1⟩ | ⟨rfl, h1, h2⟩ | ⟨rfl, h1⟩
    · obtain ⟨⟨x0, x1, x2, x3, x4, x5⟩, ⟨t0, t1, t2⟩, _⟩ := D1.out.now
      go_wp2_with fail
      refine (C1.out wr D1.out.now.2.2.1 D1.out.now.2.2.2.1).mono ?_
      rintro e w2 ⟨rfl, hb⟩
      clear x0 x1 x2 x3 x4 x5 t0 t1 t2
      have HB2 := Lib.hid (HB.out.trans (hb.mono hbz))
      have HQ := Lib.hid (D1.out.mv hb).now.2.2.2.2
      clear hb
      by_cases h : errT g x.l = 0
      · have H := Lib.hid h
        rw [h]
        clear h
        go_wp2
        go_roundw
        case rel => exact ⟨HB2.out, .inr (.inl ⟨rfl, H.out⟩)⟩
        case measure => simp [intOf]
      · have HE := Lib.hid (errL_left (r := x.r) h)
        obtain ⟨k, hk⟩ : ∃ k, errT g x.l = k := ⟨_, rfl⟩
        rw [hk] at HE h ⊢
        have h2 : (k != 0) = true := by simpa using h
        clear h hk
        go_wp2
        go_ret
        exact ⟨by rw [HE.out]; rfl, HQ.out⟩
    · obtain ⟨⟨x0, x1, x2, x3, x4, x5⟩, ⟨t0, t1, t2⟩, _⟩ := D1.out.now
      have H1 := Lib.hid h1
      clear h1
      go_wp2_with fail
      refine (C2.out wr D1.out.now.2.2.1 D1.out.now.2.2.2.1).mono ?_
      rintro e w2 ⟨rfl, hb⟩
      clear x0 x1 x2 x3 x4 x5 t0 t1 t2
      have HB2 := Lib.hid (HB.out.trans (hb.mono hbz))
      have HQ := Lib.hid (D1.out.mv hb).now.2.2.2.2
      clear hb
      by_cases h : errT g x.r = 0
      · have H := Lib.hid h
        rw [h]
        clear h
        go_wp2
        go_roundw
        case rel => exact ⟨HB2.out, .inr (.inr (.inl ⟨rfl, H1.out, H.out⟩))⟩
        case measure => simp [intOf]
      · have HE := Lib.hid (errL_right H1.out h)
        obtain ⟨k, hk⟩ : ∃ k, errT g x.r = k := ⟨_, rfl⟩
        rw [hk] at HE h ⊢
        have h2 : (k != 0) = true := by simpa using h
        clear h hk
        go_wp2
        go_ret
        exact ⟨by rw [HE.out]; rfl, HQ.out⟩
    · obtain ⟨⟨x0, x1, x2, x3, x4, x5⟩, ⟨t0, t1, t2⟩, _⟩ := D1.out.now
      have HE := Lib.hid (errL_sort h1 h2)
      have C4 := Lib.hid (C3.out h1 h2)
      clear h1 h2
      go_wp2_with fail
      refine (C4.out wr D1.out.now.2.2.1 D1.out.now.2.2.2.1).mono ?_
      rintro e w2 ⟨rfl, hb⟩
      clear x0 x1 x2 x3 x4 x5 t0 t1 t2
      have HB2 := Lib.hid (HB.out.trans (hb.mono hbz))
      have HQ := Lib.hid (D1.out.mv hb).now.2.2.2.2
      clear hb
      by_cases h : sortE g x.l x.r = 0
      · have H := Lib.hid (HE.out.trans h)
        rw [h]
        clear h
        go_wp2
        go_roundw
        case rel => exact ⟨HB2.out, .inr (.inr (.inr ⟨rfl, H.out⟩))⟩
        case measure => simp [intOf]
      · obtain ⟨k, hk⟩ : ∃ k, sortE g x.l x.r = k := ⟨_, rfl⟩
        rw [hk] at HE h ⊢
        have h2 : (k != 0) = true := by simpa using h
        clear h hk
        go_wp2
        go_ret
        exact ⟨by rw [HE.out]; rfl, HQ.out⟩
    · have HQ := Lib.hid D1.out.now.2.2.2.2
      have HE := Lib.hid h1
      clear h1
      go_wp2
      go_ret
      exact ⟨by rw [HE.out]; rfl, HQ.out⟩

set_option maxRecDepth 100000 in
set_option maxHeartbeats 4000000 in
theorem litCheck_any (g : Sg) (x : LV) (hx : x.sz) (n₀ : Nat) (ga : Option Addr) (gc : Nat) (w : World) (hn : n₀ ≤ w.heap.size) (hG : IsSg n₀ w g ga gc) (hX : IsLv n₀ w x) :
    Calls Tryz.prog 13 #[.slice ga g.length gc, x.v] w fun e w' => e = .returned (.int .i64 (errL g x.l x.r)) ∧ Below w.heap.size w w' := by
  obtain ⟨W1, hW1⟩ : ∃ W1, (w.alloc x.obj).alloc (.cells #[fnV 30, fnV 31, fnV 32] 58) = W1 := ⟨_, rfl⟩
  have hs1 : W1.heap.size = w.heap.size + 2 := by rw [← hW1]; simp
  have hF1 : Below w.heap.size w W1 := by rw [← hW1]; exact ((Below.refl _ w).alloc (Nat.le_refl _) _).alloc (by simp) _
  have ht : TsM (w.heap.size + 1) W1 := by rw [← hW1]; exact ⟨by simp [go_sem], by simp [go_sem], by simp [go_sem]⟩
  have HC := Lib.hid (litFirst_any g x hx n₀ ga gc (w.heap.size + 1) W1 (by omega) (hG.below (hF1.mono hn)) (hX.below (hF1.mono hn)) (by omega) ht)
  have HF := Lib.hid hF1
  clear hG hX hF1 ht
  go_enter Tryz.func13, Tryz.ntmps13
  go_wp2_with fail
  try rw [hW1]
  refine HC.out.mono ?_
  rintro e w2 ⟨rfl, hb⟩
  have HB := Lib.hid (HF.out.trans (hb.mono HF.out.size))
  clear hb
  go_wp2
  go_ret
  exact ⟨rfl, HB.out⟩

end Go.Proofs.YtleohdddaadbeaaGreat
