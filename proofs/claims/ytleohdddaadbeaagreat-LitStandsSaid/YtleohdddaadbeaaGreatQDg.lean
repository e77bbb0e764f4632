/- QDg: joined of R8r, Rv1. -/
import Derived.Test.YtleohdddaadbeaaGreatQDf
import Derived.Test.YtleohdddaadbeaaGreatQDa
import Derived.Test.YtleohdddaadbeaaGreatQBk
import Derived.Test.YtleohdddaadbeaaGreatQBo
/- Contracts of the document's answer for rows (layer 8): over, Rows. -/
namespace Go.Proofs.YtleohdddaadbeaaGreat
set_option linter.unusedVariables false
set_option linter.unusedSimpArgs false
open Go.RowKit

def ovAll (g : Sg) (x y : List T) : Bool := y.all fun u => x.any fun t => gtK g t u
def OvI (g : Sg) (x y : List T) (w1 : World) (i : Value) (wr : World) : Prop := ∃ k : Nat, k ≤ y.length ∧ i = .int .i64 k ∧ ovAll g x y = ovAll g x (y.drop k) ∧ Below w1.heap.size w1 wr
def OvJ (g : Sg) (x : List T) (u : T) (w1 : World) (av j : Value) (wr : World) : Prop := ∃ k : Nat, k ≤ x.length ∧ j = .int .i64 k ∧ av = .bool ((x.take k).any fun t => gtK g t u) ∧ Below w1.heap.size w1 wr
theorem any_snoc {x : List T} {k : Nat} {t : T} (h : x[k]? = some t) (f : T → Bool) : (x.take (k + 1)).any f = ((x.take k).any f || f t) := by
  rw [List.take_add_one, h]; simp
theorem ov_step {g : Sg} {x y : List T} {k : Nat} {u : T} (h : y[k]? = some u) : ovAll g x (y.drop k) = ((x.any fun t => gtK g t u) && ovAll g x (y.drop (k + 1))) := by
  obtain ⟨hkl, hke⟩ := List.getElem?_eq_some_iff.1 h
  rw [List.drop_eq_getElem_cons hkl, hke]; rfl

set_option maxRecDepth 100000 in
set_option maxHeartbeats 4000000 in
theorem rOver_any (g : Sg) (hr : rightG g = true) (x y : List T) (hx : ∀ t ∈ x, OkT g t) (hy : ∀ t ∈ y, OkT g t) (n₀ : Nat) (ga : Option Addr) (gc : Nat) (pa : Option Addr) (ca : Nat) (pb : Option Addr) (cb : Nat) (w : World) (hn : n₀ ≤ w.heap.size) (hG : IsSg n₀ w g ga gc) (hA : IsArgs n₀ w x pa ca) (hB : IsArgs n₀ w y pb cb) :
    Calls Tryz.prog 58 #[.slice ga g.length gc, .slice pa x.length ca, .slice pb y.length cb] w fun e w' => e = .returned (.bool (overT g x y)) ∧ Below w.heap.size w w' := by
  have HG := Lib.hid (hG.mono hn)
  have HA := Lib.hid (hA.mono hn)
  have HB := Lib.hid (hB.mono hn)
  have hla1 := hA.1
  have hla2 := hA.2.1
  have hlb1 := hB.1
  have hlb2 := hB.2.1
  unfold maxLen at hla2 hlb2
  have HXO := Lib.hid hx
  have HYO := Lib.hid hy
  have HOV := Lib.hid (show overT g x y = (decide (0 < x.length) && ovAll g x y) from by
    unfold overT ovAll
    congr 1
    cases x <;> simp)
  clear hA hB hG hx hy
  go_enter Tryz.func58, Tryz.ntmps58
  go_wp2
  go_loopw [7] (fun i wr => OvI g x y w i wr) (fun i _ => y.length - (intOf i).toNat)
  case atStart => exact ⟨0, Nat.zero_le _, rfl, by simp, Below.refl _ _⟩
  case round =>
    obtain ⟨k, hk, rfl, hE, hb⟩ := hrel
    have HE := Lib.hid hE
    have HBo := Lib.hid hb
    have hnz := hb.size
    clear hE hb
    by_cases hlt : k < y.length
    · obtain ⟨b1, o1, u, a1, c1, rfl, hb1, hu, huw, e0, e1, huA⟩ := (HB.out.below HBo.out).elem (i := k) hlt
      have hk0 : (0 : Int) ≤ (k : Int) := Int.natCast_nonneg _
      have hk1 : (k : Int) < (y.length : Int) := by omega
      have HU := Lib.hid (And.intro hu (And.intro huw huA))
      have HST := Lib.hid (ov_step (g := g) (x := x) hu)
      have HUO := Lib.hid (HYO.out u (List.mem_of_getElem? hu))
      clear hu huw huA
      have hb1w : b1 < wr.heap.size := by omega
      obtain ⟨wo, rfl⟩ : ∃ wo, wo = wr := ⟨_, rfl⟩
      go_wp2
      go_loopw [8, 9] (fun av jv W' => OvJ g x u wo av jv W') (fun av jv _ => x.length - (intOf jv).toNat)
      case atStart => exact ⟨0, Nat.zero_le _, rfl, rfl, Below.refl _ _⟩
      case round =>
        obtain ⟨j, hj, rfl, rfl, hB2⟩ := hrel
        have HB2 := Lib.hid hB2
        have hB2z := hB2.size
        have e0' := (hB2.cell (p := ⟨b1, _, none⟩) hb1w).trans e0
        have e1' := (hB2.cell (p := ⟨b1, _, none⟩) hb1w).trans e1
        have HBw := Lib.hid (HBo.out.trans (hB2.mono hnz))
        clear hB2
        have hj0 : (0 : Int) ≤ (j : Int) := Int.natCast_nonneg _
        by_cases hjb : j < x.length
        · have hj1 : (j : Int) < (x.length : Int) := by omega
          obtain ⟨b2, o2, t, a2, c2, rfl, hb2, ht, htw, f0, f1, htA⟩ := (HA.out.below HBw.out).elem (i := j) hjb
          have HAN := Lib.hid (any_snoc ht (fun t => gtK g t u))
          have HTO := Lib.hid (HXO.out t (List.mem_of_getElem? ht))
          have hb2w : b2 < wr.heap.size := by omega
          clear ht
          obtain ⟨q, hq⟩ : ∃ q, ((x.take j).any fun t => gtK g t u) = q := ⟨_, rfl⟩
          rw [hq] at HAN ⊢
          clear hq
          cases q with
          | true =>
            go_wp2
            go_quiet (fail)
            go_wp2
            go_roundw
            case rel => exact ⟨j + 1, by omega, by go_num, by rw [HAN.out]; rfl, HB2.out.trans ((bl_drew' _ _).mono (by omega))⟩
            case measure => simp [intOf]; omega
          | false =>
            have KP := Lib.hid (show ∀ W, Below wr.heap.size wr W → (W.cell? ⟨b1, o1 + k * 2, none⟩ = some (.int .i64 u.head) ∧ W.cell? ⟨b1, o1 + k * 2 + 1, none⟩ = some (.slice a1 u.args.length c1)) ∧ (W.cell? ⟨b2, o2 + j * 2, none⟩ = some (.int .i64 t.head) ∧ W.cell? ⟨b2, o2 + j * 2 + 1, none⟩ = some (.slice a2 t.args.length c2)) ∧ Below wr.heap.size wr W from fun W hW =>
              ⟨⟨(hW.cell (p := ⟨b1, _, none⟩) (by show b1 < _; omega)).trans e0', (hW.cell (p := ⟨b1, _, none⟩) (by show b1 < _; omega)).trans e1'⟩, ⟨(hW.cell (p := ⟨b2, _, none⟩) (by show b2 < _; omega)).trans f0, (hW.cell (p := ⟨b2, _, none⟩) (by show b2 < _; omega)).trans f1⟩, hW⟩)
            have CG := Lib.hid (fun (W : World) (hW : Below wr.heap.size wr W) => greater_any g hr t.size t u (Nat.le_refl _) HTO.out HUO.out w.heap.size ga gc a2 c2 a1 c1 W (by have := hW.size; omega) ((HG.out.below HBw.out).below (hW.mono (by omega))) htw HU.out.2.1 (htA.below (hW.mono (by omega))) ((HU.out.2.2.below (HB2.out.mono hnz)).below (hW.mono (by omega))))
            obtain ⟨⟨p1, p2⟩, ⟨p3, p4⟩, _⟩ := KP.out _ (Below.refl _ _)
            clear htw htA e0' e1' f0 f1
            generalize gtK g t u = q at *
            go_wp2_with fail
            refine wp_region_noPanic ?_
            go_region_held3 (fun w' => (w'.cell? ⟨b1, o1 + k * 2, none⟩ = some (.int .i64 u.head) ∧ w'.cell? ⟨b1, o1 + k * 2 + 1, none⟩ = some (.slice a1 u.args.length c1)) ∧ (w'.cell? ⟨b2, o2 + j * 2, none⟩ = some (.int .i64 t.head) ∧ w'.cell? ⟨b2, o2 + j * 2 + 1, none⟩ = some (.slice a2 t.args.length c2)) ∧ Below wr.heap.size wr w')
              (first
                | exact KP.out _ (Below.refl _ _)
                | exact KP.out _ (Below.refl _ _).drew
                | exact KP.out _ hB)
              (first
                | (go_at_call 20; with_reducible refine (CG.out _ (‹_ ∧ _ ∧ Below wr.heap.size wr _›.2.2)).mono ?_; rintro e u1 ⟨rfl, hu⟩; have hB := bl_call (‹_ ∧ _ ∧ Below wr.heap.size wr _›.2.2) hu; have hfin := hB))
            all_goals
              refine NoPanic.normal ?_
              have HFIN := Lib.hid (HB2.out.trans (hfin.mono hB2z))
              go_wp2
              go_roundw
              case rel => exact ⟨j + 1, by omega, by go_num, by rw [HAN.out]; rfl, HFIN.out⟩
              case measure => simp [intOf]; omega
        · obtain rfl : j = x.length := by omega
          rw [List.take_length]
          obtain ⟨q, hq⟩ : ∃ q, (x.any fun t => gtK g t u) = q := ⟨_, rfl⟩
          rw [hq] at HST ⊢
          clear hq
          cases q with
          | true =>
            have HN := Lib.hid (show ovAll g x y = ovAll g x (y.drop (k + 1)) from by rw [HE.out, HST.out]; rfl)
            go_wp2
            go_roundw
            case rel => exact ⟨k + 1, by omega, by go_num, HN.out, HBw.out⟩
            case measure => simp [intOf]; omega
          | false =>
            have HN := Lib.hid (show overT g x y = false from by rw [HOV.out, HE.out, HST.out]; simp)
            go_wp2
            go_ret
            exact ⟨by rw [HN.out]; rfl, HBw.out⟩
    · obtain rfl : k = y.length := by omega
      have HN := Lib.hid (show overT g x y = decide (0 < x.length) from by rw [HOV.out, HE.out, List.drop_of_length_le (Nat.le_refl _)]; simp [ovAll])
      go_wp2
      go_ret
      exact ⟨by rw [HN.out]; rfl, HBo.out⟩

set_option maxRecDepth 100000 in
set_option maxHeartbeats 4000000 in
theorem rRows_any (g : Sg) (A B : List T) (hoa : ∀ t ∈ A, errT g t = 0) (hob : ∀ t ∈ B, errT g t = 0) (hla : A.length ≤ 1000000) (hlb : B.length ≤ 1000000) (hsa : ∀ t ∈ A, t.size ≤ 1000000000000) (hsb : ∀ t ∈ B, t.size ≤ 1000000000000) (n₀ : Nat) (ga : Option Addr) (gc : Nat) (pa : Option Addr) (ca : Nat) (pb : Option Addr) (cb : Nat) (w : World) (hn : n₀ ≤ w.heap.size) (hG : IsSg n₀ w g ga gc) (hA : IsArgs n₀ w A pa ca) (hB : IsArgs n₀ w B pb cb) :
    Calls Tryz.prog 38 #[.slice ga g.length gc, .slice pa A.length ca, .slice pb B.length cb] w fun e w' => e = .returned (.int .i64 (rowsT g A B)) ∧ Below w.heap.size w w' := by
  have C1 := Lib.hid (rWithout_any A B hla hlb hsa hsb n₀ pa ca pb cb w hn hA hB)
  have C2 := Lib.hid (fun (W : World) (hW : Below w.heap.size w W) => rWithout_any B A hlb hla hsb hsa n₀ pb cb pa ca W (Nat.le_trans hn hW.size) (hB.below (hW.mono hn)) (hA.below (hW.mono hn)))
  have HGG := Lib.hid (fun (W : World) (hW : Below w.heap.size w W) => (hG.below (hW.mono hn)).mono (Nat.le_trans hn hW.size))
  have HOA := Lib.hid (fun (t : T) (ht : t ∈ diffM A B) => hoa t (diffM_sub A B t ht))
  have HOB := Lib.hid (fun (t : T) (ht : t ∈ diffM B A) => hob t (diffM_sub B A t ht))
  have hd1 := diffM_length A B
  have hd2 := diffM_length B A
  have HR := Lib.hid (show rowsT g A B = if diffM A B = [] ∧ diffM B A = [] then 0 else if overT g (diffM A B) (diffM B A) then 1 else if overT g (diffM B A) (diffM A B) then -1 else 2 from rfl)
  clear hG hA hB hoa hob hsa hsb
  generalize diffM A B = x at *
  generalize diffM B A = y at *
  go_enter Tryz.func38, Tryz.ntmps38
  go_wp2_with fail
  refine C1.out.mono ?_
  rintro e w1 ⟨p1, c1, rfl, hX, hb1⟩
  have HX1 := Lib.hid hX
  have HB1 := Lib.hid hb1
  clear hX hb1
  go_wp2_with fail
  refine (C2.out w1 HB1.out).mono ?_
  rintro e w2 ⟨p2, c2, rfl, hY, hb2⟩
  have HX2 := Lib.hid ((HX1.out.below hb2).mono hb2.size)
  have HY2 := Lib.hid hY
  have HB2 := Lib.hid (HB1.out.trans (hb2.mono HB1.out.size))
  clear hY hb2 HX1
  by_cases h0 : x = [] ∧ y = []
  · have HZ := Lib.hid (show rowsT g A B = 0 from by rw [HR.out, if_pos h0])
    obtain ⟨rfl, rfl⟩ := h0
    go_wp2
    go_ret
    exact ⟨by rw [HZ.out]; rfl, HB2.out⟩
  have HR2 := Lib.hid (show rowsT g A B = if overT g x y then 1 else if overT g y x then -1 else 2 from by rw [HR.out, if_neg h0])
  have hrg : rightG g = true := by
    cases hue : x with
    | cons u us' => exact errT_right (HOA.out u (by rw [hue]; simp))
    | nil =>
      cases hve : y with
      | cons v vs' => exact errT_right (HOB.out v (by rw [hve]; simp))
      | nil => exact absurd ⟨hue, hve⟩ h0
  have CO1 := Lib.hid (rOver_any g hrg x y (fun t ht => errT_okT (HOA.out t ht)) (fun t ht => errT_okT (HOB.out t ht)) w2.heap.size ga gc p1 c1 p2 c2 w2 (Nat.le_refl _) (HGG.out w2 HB2.out) HX2.out HY2.out)
  have CO2 := Lib.hid (fun (W : World) (hW : Below w2.heap.size w2 W) => rOver_any g hrg y x (fun t ht => errT_okT (HOB.out t ht)) (fun t ht => errT_okT (HOA.out t ht)) w2.heap.size ga gc p2 c2 p1 c1 W hW.size ((HGG.out w2 HB2.out).below hW) (HY2.out.below hW) (HX2.out.below hW))
  have hlen : ((x.length : Int) + (y.length : Int) == 0) = false := by
    have : ¬ (x.length = 0 ∧ y.length = 0) := fun e => h0 ⟨List.eq_nil_of_length_eq_zero e.1, List.eq_nil_of_length_eq_zero e.2⟩
    simp only [beq_eq_false_iff_ne, ne_eq]; omega
  have hlen2 : ¬ ((x.length : Int) + (y.length : Int) = 0) := by simpa using hlen
  generalize overT g x y = q1 at *
  generalize overT g y x = q2 at *
  clear h0 hrg HX2 HY2 HOA HOB
  go_wp2_with fail
  refine CO1.out.mono ?_
  rintro e w3 ⟨rfl, hb3⟩
  have HB3 := Lib.hid (HB2.out.trans (hb3.mono HB2.out.size))
  have CO3 := Lib.hid (CO2.out w3 hb3)
  clear hb3
  cases q1 with
  | true =>
    have HZ := Lib.hid (show rowsT g A B = 1 from by rw [HR2.out]; rfl)
    go_wp2
    go_ret
    exact ⟨by rw [HZ.out]; rfl, HB3.out⟩
  | false =>
  go_wp2_with fail
  refine CO3.out.mono ?_
  rintro e w4 ⟨rfl, hb4⟩
  have HB4 := Lib.hid (HB3.out.trans (hb4.mono HB3.out.size))
  clear hb4
  cases q2 with
  | true =>
    have HZ := Lib.hid (show rowsT g A B = -1 from by rw [HR2.out]; rfl)
    go_wp2
    go_ret
    exact ⟨by rw [HZ.out]; rfl, HB4.out⟩
  | false =>
    have HZ := Lib.hid (show rowsT g A B = 2 from by rw [HR2.out]; rfl)
    go_wp2
    go_ret
    exact ⟨by rw [HZ.out]; rfl, HB4.out⟩

/-! ### Multi -/
end Go.Proofs.YtleohdddaadbeaaGreat

/- Small contracts for examples: a variable, a literal turned, the signature of $true, a and f. -/
namespace Go.Proofs.YtleohdddaadbeaaGreat
set_option linter.unusedVariables false
set_option linter.unusedSimpArgs false
open Go.RowKit

def g9 : Sg := [sy0, ⟨⟨#[97]⟩, 0, 1, false⟩, ⟨⟨#[102]⟩, 1, 1, false⟩]
def cells9 : List Value := [.string ⟨#[36, 116, 114, 117, 101]⟩, .int .i64 0, .int .i64 1, .bool true, .string ⟨#[97]⟩, .int .i64 0, .int .i64 1, .bool false, .string ⟨#[102]⟩, .int .i64 1, .int .i64 1, .bool false]
theorem g9_mem {b : Nat} {X : World} (h : Cs b cells9 X) : IsSg X.heap.size X g9 (some ⟨b, 0, none⟩) 3 := by
  obtain ⟨h1, h2⟩ := h
  refine ⟨by simp [g9], by simp [maxLen], .inr ⟨b, 0, rfl, h1, fun j x hx => ?_⟩⟩
  match j, hx with
  | 0, hx => simp [g9] at hx; subst hx; exact ⟨⟨by decide, by decide, by decide⟩, h2 0 _ rfl, h2 1 _ rfl, h2 2 _ rfl, h2 3 _ rfl⟩
  | 1, hx => simp [g9] at hx; subst hx; exact ⟨⟨by decide, by decide, by decide⟩, h2 4 _ rfl, h2 5 _ rfl, h2 6 _ rfl, h2 7 _ rfl⟩
  | 2, hx => simp [g9] at hx; subst hx; exact ⟨⟨by decide, by decide, by decide⟩, h2 8 _ rfl, h2 9 _ rfl, h2 10 _ rfl, h2 11 _ rfl⟩
  | j + 3, hx => simp [g9] at hx
def F9 : T := .node 2 [.node (-1) []]
def A9 : T := .node 1 []
theorem args9 {br : Nat} {X : World} (h : Cs br [.int .i64 (-1), .slice none 0 0] X) : IsArgs X.heap.size X F9.args (some ⟨br, 0, none⟩) 1 := by
  obtain ⟨h1, h2⟩ := h
  exact ⟨by simp [F9, T.args], by simp [maxLen], .inr ⟨br, 0, rfl, h1, ⟨by decide, h2 0 _ rfl, _, _, h2 1 _ rfl, by simp, by simp [maxLen], .inl rfl⟩, trivial⟩⟩
theorem argsA9 (X : World) : IsArgs X.heap.size X A9.args none 0 := ⟨by simp [A9, T.args], by simp [maxLen], .inl rfl⟩
/-- The example's literal. -/
def X9 (br : Nat) : LV := ⟨false, A9, F9, none, 0, some ⟨br, 0, none⟩, 1⟩
theorem x9_mem {br : Nat} {X : World} (h : Cs br [.int .i64 (-1), .slice none 0 0] X) : IsLv X.heap.size X (X9 br) := ⟨(show (Lit.int .i64 1).wf = true from by decide), (show (Lit.int .i64 2).wf = true from by decide), argsA9 X, args9 h⟩

set_option maxRecDepth 100000 in
set_option maxHeartbeats 1000000 in
theorem turn_any (x : LV) (w : World) : Calls Tryz.prog 21 #[x.v] w fun e w' => e = .returned x.turn.v ∧ Below w.heap.size w w' := by
  obtain ⟨xn, xl, xr, xpa, xca, xpb, xcb⟩ := x
  have HF := Lib.hid (show Below w.heap.size w ((w.alloc (LV.mk xn xl xr xpa xca xpb xcb).obj).alloc (LV.mk xn xl xr xpa xca xpb xcb).turn.obj) from ((Below.refl _ w).alloc (Nat.le_refl _) _).alloc (by simp) _)
  go_enter Tryz.func21, Tryz.ntmps21
  go_wp2
  refine bodyPost_ret (v := (LV.mk xn xl xr xpa xca xpb xcb).turn.v) (by simp [results, Tryz.results21, go_sem, LV.turn]) rfl ?_
  exact ⟨rfl, HF.out⟩

end Go.Proofs.YtleohdddaadbeaaGreat
