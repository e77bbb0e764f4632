/- QDa: joined of Lm, Lp, Rck9. -/
import Derived.Test.YtleohdddaadbeaaGreatQBo
import Derived.Test.YtleohdddaadbeaaGreatQBl
import Derived.Test.YtleohdddaadbeaaGreatQBm
import Derived.Test.YtleohdddaadbeaaGreatSam0
import Derived.Test.YtleohdddaadbeaaGreatR7t
/- Literals in memory. -/
namespace Go.Proofs.YtleohdddaadbeaaGreat
set_option linter.unusedVariables false
set_option linter.unusedSimpArgs false
open Go.RowKit

/-- A literal as a value: which terms, and where their arguments lie. -/
structure LV where
  n : Bool
  l : T
  r : T
  pa : Option Addr
  ca : Nat
  pb : Option Addr
  cb : Nat
abbrev LV.v (x : LV) : Value := .agg #[.bool x.n, .int .i64 x.l.head, .slice x.pa x.l.args.length x.ca, .int .i64 x.r.head, .slice x.pb x.r.args.length x.cb]
abbrev LV.obj (x : LV) : Obj := .cells #[.bool x.n, .int .i64 x.l.head, .slice x.pa x.l.args.length x.ca, .int .i64 x.r.head, .slice x.pb x.r.args.length x.cb] 27
/-- A variable of type Lit: its five cells. -/
def Lc (b : Nat) (x : LV) (X : World) : Prop :=
  X.cell? ⟨b, 0, none⟩ = some (.bool x.n) ∧ X.cell? ⟨b, 1, none⟩ = some (.int .i64 x.l.head) ∧ X.cell? ⟨b, 2, none⟩ = some (.slice x.pa x.l.args.length x.ca) ∧ X.cell? ⟨b, 3, none⟩ = some (.int .i64 x.r.head) ∧ X.cell? ⟨b, 4, none⟩ = some (.slice x.pb x.r.args.length x.cb)
theorem later_lc (W : World) (x : LV) : Later (Lc W.heap.size x) (W.alloc x.obj) := fun X hX =>
  ⟨(hX.cell (p := ⟨W.heap.size, 0, none⟩) (by simp)).trans (by simp [go_sem]), (hX.cell (p := ⟨W.heap.size, 1, none⟩) (by simp)).trans (by simp [go_sem]), (hX.cell (p := ⟨W.heap.size, 2, none⟩) (by simp)).trans (by simp [go_sem]),
    (hX.cell (p := ⟨W.heap.size, 3, none⟩) (by simp)).trans (by simp [go_sem]), (hX.cell (p := ⟨W.heap.size, 4, none⟩) (by simp)).trans (by simp [go_sem])⟩
/-- A new variable of type Lit, laid in a later world. -/
theorem Later.pushL {F : World → Prop} {W W' : World} (k : Later F W) (hb : Below W.heap.size W W') (x : LV) : Later (fun X => Lc W'.heap.size x X ∧ F X) (W'.alloc x.obj) :=
  (k.mv (hb.alloc hb.size _)).and (later_lc W' x)
/-- The sides of a literal in memory. -/
structure IsLv (n₀ : Nat) (w : World) (x : LV) : Prop where
  lw : (Lit.int .i64 x.l.head).wf = true
  rw : (Lit.int .i64 x.r.head).wf = true
  la : IsArgs n₀ w x.l.args x.pa x.ca
  ra : IsArgs n₀ w x.r.args x.pb x.cb
theorem IsLv.below {n₀ : Nat} {w w' : World} {x : LV} (h : IsLv n₀ w x) (hb : Below n₀ w w') : IsLv n₀ w' x := ⟨h.lw, h.rw, h.la.below hb, h.ra.below hb⟩
theorem IsLv.mono {n₀ n₁ : Nat} {w : World} {x : LV} (h : IsLv n₀ w x) (hn : n₀ ≤ n₁) : IsLv n₁ w x := ⟨h.lw, h.rw, h.la.mono hn, h.ra.mono hn⟩
theorem later_lv {W : World} {x : LV} (h : IsLv W.heap.size W x) : Later (fun X => IsLv X.heap.size X x) W := fun X hX => (h.below hX).mono hX.size
/-- Are both sides of a size that can be walked? -/
def LV.sz (x : LV) : Prop := x.l.size ≤ 1000000000000 ∧ x.r.size ≤ 1000000000000
/-- The literal with its sides changed. -/
def LV.turn (x : LV) : LV := ⟨x.n, x.r, x.l, x.pb, x.cb, x.pa, x.ca⟩
theorem IsLv.turn {n₀ : Nat} {w : World} {x : LV} (h : IsLv n₀ w x) : IsLv n₀ w x.turn := ⟨h.rw, h.lw, h.ra, h.la⟩

end Go.Proofs.YtleohdddaadbeaaGreat

/- Literals: what the document says of them; plain facts. -/
namespace Go.Proofs.YtleohdddaadbeaaGreat
set_option linter.unusedVariables false
set_option linter.unusedSimpArgs false
open Go.RowKit

/-- Do the sides of a literal go together? -/
def sortE (g : Sg) (l r : T) : Int := if predS g l.head then (if r.head = 0 then 0 else 10) else if predS g r.head then 10 else 0
/-- The error of a literal. -/
def errL (g : Sg) (l r : T) : Int := if errT g l ≠ 0 then errT g l else if errT g r ≠ 0 then errT g r else sortE g l r
theorem errL_ok {g : Sg} {l r : T} (h : errL g l r = 0) : errT g l = 0 ∧ errT g r = 0 ∧ sortE g l r = 0 := by
  unfold errL at h
  by_cases q : errT g l = 0
  · rw [if_neg (fun e => e q)] at h
    by_cases q' : errT g r = 0
    · rw [if_neg (fun e => e q')] at h
      exact ⟨q, q', h⟩
    · rw [if_pos q'] at h; exact absurd h q'
  · rw [if_pos q] at h; exact absurd h q
theorem errL_of {g : Sg} {l r : T} (h1 : errT g l = 0) (h2 : errT g r = 0) (h3 : sortE g l r = 0) : errL g l r = 0 := by
  unfold errL
  rw [if_neg (fun e => e h1), if_neg (fun e => e h2), h3]
theorem errL_left {g : Sg} {l r : T} (h : errT g l ≠ 0) : errL g l r = errT g l := by unfold errL; rw [if_pos h]
theorem errL_right {g : Sg} {l r : T} (h1 : errT g l = 0) (h2 : errT g r ≠ 0) : errL g l r = errT g r := by
  unfold errL; rw [if_neg (fun e => e h1), if_pos h2]
theorem errL_sort {g : Sg} {l r : T} (h1 : errT g l = 0) (h2 : errT g r = 0) : errL g l r = sortE g l r := by
  unfold errL; rw [if_neg (fun e => e h1), if_neg (fun e => e h2)]

/-- The same sides, one way round or the other. -/
def sidB (l r l' r' : T) : Bool := (sameB l l' && sameB r r') || (sameB l r' && sameB r l')
theorem sidB_iff {l r l' r' : T} : sidB l r l' r' = true ↔ sidesT l r l' r' := by
  simp only [sidB, sidesT, Bool.or_eq_true, Bool.and_eq_true, sameB_iff]
def samL (n : Bool) (l r : T) (n' : Bool) (l' r' : T) : Bool := n == n' && sidB l r l' r'
def oppL (n : Bool) (l r : T) (n' : Bool) (l' r' : T) : Bool := n != n' && sidB l r l' r'
theorem errF_row {g : Sg} {n : Bool} {l r : T} (h1 : errT g l = 0) (h2 : errT g r = 0) : errF g (rowL n l r) = 0 := by
  cases n
  · exact errF_pair h1 h2
  · show errF g ([l, l] ++ [r, r]) = 0
    rw [errF_app, errF_pair h1 h1, if_pos rfl, errF_pair h2 h2]

/-! ### An order -/
theorem lit_same {g : Sg} {n n' : Bool} {l r l' r' : T} : rowsT g (rowL n l r) (rowL n' l' r') = 0 ↔ samL n l r n' l' r' = true := by
  rw [rowsT_zero_iff, rowL_eq, samL, Bool.and_eq_true, beq_iff_eq, sidB_iff]
theorem lit_neg {g : Sg} {n n' : Bool} {l r l' r' : T} (h : oppL n l r n' l' r' = true) (hn : n = true) : rowsT g (rowL n l r) (rowL n' l' r') = 1 := by
  subst hn
  rw [oppL, Bool.and_eq_true, sidB_iff] at h
  have : n' = false := by
    have h1 := h.1
    cases n' with
    | false => rfl
    | true => simp at h1
  subst this
  exact rowsT_more_iff.2 (rowL_neg h.2)

/-! ### Oriented -/
def oriA (g : Sg) (l r : T) : T := if stand g l r = -1 then r else l
def oriB (g : Sg) (l r : T) : T := if stand g l r = -1 then l else r
theorem stand_ori (g : Sg) (l r : T) : stand g (oriA g l r) (oriB g l r) ≠ -1 := by
  unfold oriA oriB
  by_cases h : stand g l r = -1
  · rw [if_pos h, if_pos h, stand_swap, h]; decide
  · rw [if_neg h, if_neg h]; exact h
theorem sid_ori (g : Sg) (l r : T) : sidB (oriA g l r) (oriB g l r) l r = true := by
  rw [sidB_iff]
  unfold oriA oriB
  by_cases h : stand g l r = -1
  · rw [if_pos h, if_pos h]; exact .inr ⟨rfl, rfl⟩
  · rw [if_neg h, if_neg h]; exact .inl ⟨rfl, rfl⟩
theorem ori_again (g : Sg) (l r : T) : oriA g (oriA g l r) (oriB g l r) = oriA g l r ∧ oriB g (oriA g l r) (oriB g l r) = oriB g l r := by
  have := stand_ori g l r
  exact ⟨by rw [oriA, if_neg this], by rw [oriB, if_neg this]⟩
/-- $true is not greater than an atom. -/
theorem atom_true {g : Sg} {l r : T} (h : errL g l r = 0) (hp : predS g l.head = true) : stand g l r ≠ -1 := by
  obtain ⟨h1, h2, h3⟩ := errL_ok h
  unfold sortE at h3
  rw [if_pos hp] at h3
  have hr0 : r.head = 0 := by
    by_cases e : r.head = 0
    · exact e
    · rw [if_neg e] at h3; cases h3
  have hrt := errT_right h1
  intro e
  have hgt := stand_less.1 e
  obtain ⟨_, hd⟩ := gtK_iff.1 hgt
  have hg0 : g[0]? = some sy0 := by
    unfold rightG at hrt
    simp only [Bool.and_eq_true, decide_eq_true_eq] at hrt
    exact hrt.1.1.2
  have hra : r.args = [] := by
    have hf := (errT_okT h2).2.1
    rw [fitsT_eq] at hf
    rw [hr0] at hf
    unfold armOk at hf
    rw [show (0 : Int).toNat = 0 from rfl, hg0] at hf
    simp [sy0] at hf
    exact hf.1
  have hw : wtT g r = 1 := by
    rw [wtT_eq, hr0, hra]
    unfold wo
    rw [if_neg (by decide), show (0 : Int).toNat = 0 from rfl, hg0]
    rfl
  have hwl := wt_pos hrt (errT_okT h1)
  have hl0 : 0 ≤ l.head := by
    unfold predS at hp
    simp only [Bool.and_eq_true, decide_eq_true_eq] at hp
    exact hp.1
  rcases hd with hd | ⟨_, _, _, hd | ⟨_, hd⟩⟩
  · omega
  · omega
  · rw [hra] at hd; simp [gtL] at hd
theorem errL_ori {g : Sg} {l r : T} (h : errL g l r = 0) : errL g (oriA g l r) (oriB g l r) = 0 := by
  unfold oriA oriB
  by_cases e : stand g l r = -1
  · rw [if_pos e, if_pos e]
    obtain ⟨h1, h2, h3⟩ := errL_ok h
    refine errL_of h2 h1 ?_
    by_cases hp : predS g l.head = true
    · exact absurd e (atom_true h hp)
    · unfold sortE at h3 ⊢
      rw [if_neg hp] at h3
      by_cases hq : predS g r.head = true
      · rw [if_pos hq] at h3; cases h3
      · rw [if_neg hq, if_neg hp]
  · rw [if_neg e, if_neg e]; exact h
theorem oriA_gt (g : Sg) (l r : T) : oriA g l r = if gtK g r l then r else l := by
  unfold oriA
  by_cases h : gtK g r l = true
  · rw [if_pos (stand_less.2 h), if_pos h]
  · rw [if_neg (fun e => h (stand_less.1 e)), if_neg h]
theorem oriB_gt (g : Sg) (l r : T) : oriB g l r = if gtK g r l then l else r := by
  unfold oriB
  by_cases h : gtK g r l = true
  · rw [if_pos (stand_less.2 h), if_pos h]
  · rw [if_neg (fun e => h (stand_less.1 e)), if_neg h]

end Go.Proofs.YtleohdddaadbeaaGreat

/- Contract of the document's answer: Check of literals (layer 9). -/
namespace Go.Proofs.YtleohdddaadbeaaGreat
set_option linter.unusedVariables false
set_option linter.unusedSimpArgs false
open Go.RowKit

set_option maxRecDepth 100000 in
set_option maxHeartbeats 4000000 in
theorem rLitCheck_any (g : Sg) (x : LV) (hx : x.sz) (n₀ : Nat) (ga : Option Addr) (gc : Nat) (w : World) (hn : n₀ ≤ w.heap.size) (hG : IsSg n₀ w g ga gc) (hX : IsLv n₀ w x) :
    Calls Tryz.prog 16 #[.slice ga g.length gc, x.v] w fun e w' => e = .returned (.int .i64 (errL g x.l x.r)) ∧ Below w.heap.size w w' := by
  have d0 := (((Later.below (Below.refl _ w)).and (later_lv (hX.mono hn))).and (later_sg (hG.mono hn))).pushL (Below.refl _ _) x
  have C1 := Lib.hid (fun (W : World) (hG : IsSg W.heap.size W g ga gc) (hX : IsLv W.heap.size W x) => r7Term_any g x.l hx.1 W.heap.size ga gc x.pa x.ca W (Nat.le_refl _) hG hX.la)
  have C2 := Lib.hid (fun (W : World) (hG : IsSg W.heap.size W g ga gc) (hX : IsLv W.heap.size W x) => r7Term_any g x.r hx.2 W.heap.size ga gc x.pb x.cb W (Nat.le_refl _) hG hX.ra)
  have C3 := Lib.hid (fun (W : World) (hG : IsSg W.heap.size W g ga gc) (hX : IsLv W.heap.size W x) => r7Truth_any g x.l W.heap.size ga gc x.pa x.ca W (Nat.le_refl _) hG hX.la)
  have C4 := Lib.hid (fun (W : World) (hG : IsSg W.heap.size W g ga gc) (hX : IsLv W.heap.size W x) => r7Truth_any g x.r W.heap.size ga gc x.pb x.cb W (Nat.le_refl _) hG hX.ra)
  have D := Lib.hid d0
  clear d0 hG hX
  go_enter Tryz.func16, Tryz.ntmps16
  go_wp2_with fail
  generalize w.alloc x.obj = w1 at D ⊢
  generalize hb0 : w.heap.size = b0 at D ⊢
  have HB0 := Lib.hid hb0
  clear hb0
  refine (C1.out w1 D.out.now.2.1 D.out.now.2.2.1).mono ?_
  rintro e w2 ⟨rfl, hb⟩
  have D2 := Lib.hid (D.out.mv hb)
  clear hb D C1
  obtain ⟨⟨x0, x1, x2, x3, x4⟩, _⟩ := D2.out.now
  by_cases h1 : errT g x.l = 0
  case neg =>
    have HE := Lib.hid (errL_left (r := x.r) h1)
    have HQ := Lib.hid D2.out.now.2.2.2
    obtain ⟨k, hk⟩ : ∃ k, errT g x.l = k := ⟨_, rfl⟩
    rw [hk] at HE h1 ⊢
    have h2 : (k != 0) = true := by simpa using h1
    clear h1 hk
    go_wp2
    go_ret
    exact ⟨by rw [HE.out]; rfl, by rw [HB0.out]; exact HQ.out⟩
  have H1 := Lib.hid h1
  rw [h1]
  clear h1
  go_wp2_with fail
  refine (C2.out w2 D2.out.now.2.1 D2.out.now.2.2.1).mono ?_
  clear x0 x1 x2 x3 x4
  rintro e w3 ⟨rfl, hb⟩
  have D3 := Lib.hid (D2.out.mv hb)
  clear hb D2 C2
  obtain ⟨⟨x0, x1, x2, x3, x4⟩, _⟩ := D3.out.now
  by_cases h1 : errT g x.r = 0
  case neg =>
    have HE := Lib.hid (errL_right H1.out h1)
    have HQ := Lib.hid D3.out.now.2.2.2
    obtain ⟨k, hk⟩ : ∃ k, errT g x.r = k := ⟨_, rfl⟩
    rw [hk] at HE h1 ⊢
    have h2 : (k != 0) = true := by simpa using h1
    clear h1 hk
    go_wp2
    go_ret
    exact ⟨by rw [HE.out]; rfl, by rw [HB0.out]; exact HQ.out⟩
  have HE := Lib.hid (errL_sort H1.out h1)
  rw [h1]
  clear h1
  go_wp2_with fail
  refine (C3.out w3 D3.out.now.2.1 D3.out.now.2.2.1).mono ?_
  clear x0 x1 x2 x3 x4
  rintro e w4 ⟨rfl, hb⟩
  have D4 := Lib.hid (D3.out.mv hb)
  clear hb D3 C3
  obtain ⟨⟨x0, x1, x2, x3, x4⟩, _⟩ := D4.out.now
  cases hp : predS g x.l.head with
  | true =>
    have HQ := Lib.hid D4.out.now.2.2.2
    by_cases hr : x.r.head = 0
    · have HS := Lib.hid (show errL g x.l x.r = 0 from by rw [HE.out]; unfold sortE; rw [if_pos hp, if_pos hr])
      rw [hr] at x3
      clear hp hr
      go_wp2
      go_ret
      exact ⟨by rw [HS.out]; rfl, by rw [HB0.out]; exact HQ.out⟩
    · have HS := Lib.hid (show errL g x.l x.r = 10 from by rw [HE.out]; unfold sortE; rw [if_pos hp, if_neg hr])
      have hr' : (x.r.head != 0) = true := by simpa using hr
      clear hp hr
      go_wp2
      go_ret
      exact ⟨by rw [HS.out]; rfl, by rw [HB0.out]; exact HQ.out⟩
  | false =>
    have HS := Lib.hid (show errL g x.l x.r = if predS g x.r.head then 10 else 0 from by rw [HE.out]; unfold sortE; rw [if_neg (by rw [hp]; decide)])
    clear hp
    go_wp2_with fail
    refine (C4.out w4 D4.out.now.2.1 D4.out.now.2.2.1).mono ?_
    clear x0 x1 x2 x3 x4
    rintro e w5 ⟨rfl, hb⟩
    have HQ := Lib.hid (D4.out.mv hb).now.2.2.2
    clear hb D4 C4
    cases hq : predS g x.r.head with
    | true =>
      have HT := Lib.hid (show errL g x.l x.r = 10 from by rw [HS.out, hq]; rfl)
      clear hq
      go_wp2
      go_ret
      exact ⟨by rw [HT.out]; rfl, by rw [HB0.out]; exact HQ.out⟩
    | false =>
      have HT := Lib.hid (show errL g x.l x.r = 0 from by rw [HS.out, hq]; rfl)
      clear hq
      go_wp2
      go_ret
      exact ⟨by rw [HT.out]; rfl, by rw [HB0.out]; exact HQ.out⟩

end Go.Proofs.YtleohdddaadbeaaGreat
