/- QBu: joined of R8r, Wo10, RfO, RSb, RRg, Pu10, No10, REnd, Sh0. -/
import Derived.Test.YtpncmdlbmnmahaaGreatQBt
import Derived.Test.YtpncmdlbmnmahaaGreatQBp
import Derived.Test.YtpncmdlbmnmahaaGreatQBm
import Derived.Test.YtpncmdlbmnmahaaGreatQBg
import Derived.Test.YtpncmdlbmnmahaaGreatQBc
import Derived.Test.YtpncmdlbmnmahaaGreatQBr
import Derived.BigQuiet
import Derived.Deep.QuietTactic
import Derived.Lib.QuietBelow
import Derived.OwnWalk
import Derived.Test.YtpncmdlbmnmahaaGreatQBn
import Derived.Test.YtpncmdlbmnmahaaGreatQBf
import Derived.Test.YtpncmdlbmnmahaaGreatQBe
import Derived.Test.YtpncmdlbmnmahaaGreatQBq
import Derived.Test.YtpncmdlbmnmahaaGreatQBd
import Derived.Deep.AppendLies
import Derived.Deep.RegionLaw
import Derived.StillTailTactics
import Derived.Deep.RegionHeld3
import Derived.Deep.CutRange
/- Contracts of the document's answer for rows (layer 8): over, Rows. -/
namespace Go.Proofs.YtpncmdlbmnmahaaGreat
set_option linter.unusedVariables false
set_option linter.unusedSimpArgs false
open Go.RowKit
def ovAll (g : Sg) (x y : List T) : Bool := y.all fun u => x.any fun t => gtK g t u
def OvI (g : Sg) (x y : List T) (w1 : World) (i : Value) (wr : World) : Prop := ∃ k : Nat, k ≤ y.length ∧ i = .int .i64 k ∧ ovAll g x y = ovAll g x (y.drop k) ∧ Below w1.heap.size w1 wr
def OvJ (g : Sg) (x : List T) (u : T) (w1 : World) (av j : Value) (wr : World) : Prop := ∃ k : Nat, k ≤ x.length ∧ j = .int .i64 k ∧ av = .bool ((x.take k).any fun t => gtK g t u) ∧ Below w1.heap.size w1 wr
theorem any_snoc {x : List T} {k : Nat} {t : T} (h : x[k]? = some t) (f : T → Bool) : (x.take (k + 1)).any f = ((x.take k).any f || f t) := by
  rw [List.take_add_one, h]; simp
theorem ov_step {g : Sg} {x y : List T} {k : Nat} {u : T} (h : y[k]? = some u) : ovAll g x (y.drop k) = ((x.any fun t => gtK g t u) && ovAll g x (y.drop (k + 1))) := by
  obtain ⟨hkl, hke⟩ := List.getElem?_eq_some_iff.1 h
  rw [List.drop_eq_getElem_cons hkl, hke]; rfl
set_option maxRecDepth 100000 in
set_option maxHeartbeats 4000000 in
theorem rOver_any (g : Sg) (hr : rightG g = true) (x y : List T) (hx : ∀ t ∈ x, OkT g t) (hy : ∀ t ∈ y, OkT g t) (n₀ : Nat) (ga : Option Addr) (gc : Nat) (pa : Option Addr) (ca : Nat) (pb : Option Addr) (cb : Nat) (w : World) (hn : n₀ ≤ w.heap.size) (hG : IsSg n₀ w g ga gc) (hA : IsArgs n₀ w x pa ca) (hB : IsArgs n₀ w y pb cb) :
    Calls Tryz.prog 88 #[.slice ga g.length gc, .slice pa x.length ca, .slice pb y.length cb] w fun e w' => e = .returned (.bool (overT g x y)) ∧ Below w.heap.size w w' := by
  have HG := Lib.hid (hG.mono hn)
  have HA := Lib.hid (hA.mono hn)
  have HB := Lib.hid (hB.mono hn)
  have hla1 := hA.1
  have hla2 := hA.2.1
  have hlb1 := hB.1
  have hlb2 := hB.2.1
  unfold maxLen at hla2 hlb2
  have HXO := Lib.hid hx
  have HYO := Lib.hid hy
  have HOV := Lib.hid (show overT g x y = (decide (0 < x.length) && ovAll g x y) from by
    unfold overT ovAll
    congr 1
    cases x <;> simp)
  clear hA hB hG hx hy
  go_enter Tryz.func88, Tryz.ntmps88
  go_wp2
  go_loopw [7] (fun i wr => OvI g x y w i wr) (fun i _ => y.length - (intOf i).toNat)
  case atStart => exact ⟨0, Nat.zero_le _, rfl, by simp, Below.refl _ _⟩
  case round =>
    obtain ⟨k, hk, rfl, hE, hb⟩ := hrel
    have HE := Lib.hid hE
    have HBo := Lib.hid hb
    have hnz := hb.size
    clear hE hb
    by_cases hlt : k < y.length
    · obtain ⟨b1, o1, u, a1, c1, rfl, hb1, hu, huw, e0, e1, huA⟩ := (HB.out.below HBo.out).elem (i := k) hlt
      have hk0 : (0 : Int) ≤ (k : Int) := Int.natCast_nonneg _
      have hk1 : (k : Int) < (y.length : Int) := by omega
      have HU := Lib.hid (And.intro hu (And.intro huw huA))
      have HST := Lib.hid (ov_step (g := g) (x := x) hu)
      have HUO := Lib.hid (HYO.out u (List.mem_of_getElem? hu))
      clear hu huw huA
      have hb1w : b1 < wr.heap.size := by omega
      obtain ⟨wo, rfl⟩ : ∃ wo, wo = wr := ⟨_, rfl⟩
      go_wp2
      go_loopw [8, 9] (fun av jv W' => OvJ g x u wo av jv W') (fun av jv _ => x.length - (intOf jv).toNat)
      case atStart => exact ⟨0, Nat.zero_le _, rfl, rfl, Below.refl _ _⟩
      case round =>
        obtain ⟨j, hj, rfl, rfl, hB2⟩ := hrel
        have HB2 := Lib.hid hB2
        have hB2z := hB2.size
        have e0' := (hB2.cell (p := ⟨b1, _, none⟩) hb1w).trans e0
        have e1' := (hB2.cell (p := ⟨b1, _, none⟩) hb1w).trans e1
        have HBw := Lib.hid (HBo.out.trans (hB2.mono hnz))
        clear hB2
        have hj0 : (0 : Int) ≤ (j : Int) := Int.natCast_nonneg _
        by_cases hjb : j < x.length
        · have hj1 : (j : Int) < (x.length : Int) := by omega
          obtain ⟨b2, o2, t, a2, c2, rfl, hb2, ht, htw, f0, f1, htA⟩ := (HA.out.below HBw.out).elem (i := j) hjb
          have HAN := Lib.hid (any_snoc ht (fun t => gtK g t u))
          have HTO := Lib.hid (HXO.out t (List.mem_of_getElem? ht))
          have hb2w : b2 < wr.heap.size := by omega
          clear ht
          obtain ⟨q, hq⟩ : ∃ q, ((x.take j).any fun t => gtK g t u) = q := ⟨_, rfl⟩
          rw [hq] at HAN ⊢
          clear hq
          cases q with
          | true =>
            go_wp2
            go_quiet (fail)
            go_wp2
            go_roundw
            case rel => exact ⟨j + 1, by omega, by go_num, by rw [HAN.out]; rfl, HB2.out.trans ((bl_drew' _ _).mono (by omega))⟩
            case measure => simp [intOf]; omega
          | false =>
            have KP := Lib.hid (show ∀ W, Below wr.heap.size wr W → (W.cell? ⟨b1, o1 + k * 2, none⟩ = some (.int .i64 u.head) ∧ W.cell? ⟨b1, o1 + k * 2 + 1, none⟩ = some (.slice a1 u.args.length c1)) ∧ (W.cell? ⟨b2, o2 + j * 2, none⟩ = some (.int .i64 t.head) ∧ W.cell? ⟨b2, o2 + j * 2 + 1, none⟩ = some (.slice a2 t.args.length c2)) ∧ Below wr.heap.size wr W from fun W hW =>
              ⟨⟨(hW.cell (p := ⟨b1, _, none⟩) (by show b1 < _; omega)).trans e0', (hW.cell (p := ⟨b1, _, none⟩) (by show b1 < _; omega)).trans e1'⟩, ⟨(hW.cell (p := ⟨b2, _, none⟩) (by show b2 < _; omega)).trans f0, (hW.cell (p := ⟨b2, _, none⟩) (by show b2 < _; omega)).trans f1⟩, hW⟩)
            have CG := Lib.hid (fun (W : World) (hW : Below wr.heap.size wr W) => greater_any g hr t.size t u (Nat.le_refl _) HTO.out HUO.out w.heap.size ga gc a2 c2 a1 c1 W (by have := hW.size; omega) ((HG.out.below HBw.out).below (hW.mono (by omega))) htw HU.out.2.1 (htA.below (hW.mono (by omega))) ((HU.out.2.2.below (HB2.out.mono hnz)).below (hW.mono (by omega))))
            obtain ⟨⟨p1, p2⟩, ⟨p3, p4⟩, _⟩ := KP.out _ (Below.refl _ _)
            clear htw htA e0' e1' f0 f1
            generalize gtK g t u = q at *
            go_wp2_with fail
            refine wp_region_noPanic ?_
            go_region_held3 (fun w' => (w'.cell? ⟨b1, o1 + k * 2, none⟩ = some (.int .i64 u.head) ∧ w'.cell? ⟨b1, o1 + k * 2 + 1, none⟩ = some (.slice a1 u.args.length c1)) ∧ (w'.cell? ⟨b2, o2 + j * 2, none⟩ = some (.int .i64 t.head) ∧ w'.cell? ⟨b2, o2 + j * 2 + 1, none⟩ = some (.slice a2 t.args.length c2)) ∧ Below wr.heap.size wr w')
              (first
                | exact KP.out _ (Below.refl _ _)
                | exact KP.out _ (Below.refl _ _).drew
                | exact KP.out _ hB)
              (first
                | (go_at_call 119; with_reducible refine (CG.out _ (‹_ ∧ _ ∧ Below wr.heap.size wr _›.2.2)).mono ?_; rintro e u1 ⟨rfl, hu⟩; have hB := bl_call (‹_ ∧ _ ∧ Below wr.heap.size wr _›.2.2) hu; have hfin := hB))
            all_goals
              refine NoPanic.normal ?_
              have HFIN := Lib.hid (HB2.out.trans (hfin.mono hB2z))
              go_wp2
              go_roundw
              case rel => exact ⟨j + 1, by omega, by go_num, by rw [HAN.out]; rfl, HFIN.out⟩
              case measure => simp [intOf]; omega
        · obtain rfl : j = x.length := by omega
          rw [List.take_length]
          obtain ⟨q, hq⟩ : ∃ q, (x.any fun t => gtK g t u) = q := ⟨_, rfl⟩
          rw [hq] at HST ⊢
          clear hq
          cases q with
          | true =>
            have HN := Lib.hid (show ovAll g x y = ovAll g x (y.drop (k + 1)) from by rw [HE.out, HST.out]; rfl)
            go_wp2
            go_roundw
            case rel => exact ⟨k + 1, by omega, by go_num, HN.out, HBw.out⟩
            case measure => simp [intOf]; omega
          | false =>
            have HN := Lib.hid (show overT g x y = false from by rw [HOV.out, HE.out, HST.out]; simp)
            go_wp2
            go_ret
            exact ⟨by rw [HN.out]; rfl, HBw.out⟩
    · obtain rfl : k = y.length := by omega
      have HN := Lib.hid (show overT g x y = decide (0 < x.length) from by rw [HOV.out, HE.out, List.drop_of_length_le (Nat.le_refl _)]; simp [ovAll])
      go_wp2
      go_ret
      exact ⟨by rw [HN.out]; rfl, HBo.out⟩
set_option maxRecDepth 100000 in
set_option maxHeartbeats 4000000 in
theorem rRows_any (g : Sg) (A B : List T) (hoa : ∀ t ∈ A, errT g t = 0) (hob : ∀ t ∈ B, errT g t = 0) (hla : A.length ≤ 1000000) (hlb : B.length ≤ 1000000) (hsa : ∀ t ∈ A, t.size ≤ 1000000000000) (hsb : ∀ t ∈ B, t.size ≤ 1000000000000) (n₀ : Nat) (ga : Option Addr) (gc : Nat) (pa : Option Addr) (ca : Nat) (pb : Option Addr) (cb : Nat) (w : World) (hn : n₀ ≤ w.heap.size) (hG : IsSg n₀ w g ga gc) (hA : IsArgs n₀ w A pa ca) (hB : IsArgs n₀ w B pb cb) :
    Calls Tryz.prog 63 #[.slice ga g.length gc, .slice pa A.length ca, .slice pb B.length cb] w fun e w' => e = .returned (.int .i64 (rowsT g A B)) ∧ Below w.heap.size w w' := by
  have C1 := Lib.hid (rWithout_any A B hla hlb hsa hsb n₀ pa ca pb cb w hn hA hB)
  have C2 := Lib.hid (fun (W : World) (hW : Below w.heap.size w W) => rWithout_any B A hlb hla hsb hsa n₀ pb cb pa ca W (Nat.le_trans hn hW.size) (hB.below (hW.mono hn)) (hA.below (hW.mono hn)))
  have HGG := Lib.hid (fun (W : World) (hW : Below w.heap.size w W) => (hG.below (hW.mono hn)).mono (Nat.le_trans hn hW.size))
  have HOA := Lib.hid (fun (t : T) (ht : t ∈ diffM A B) => hoa t (diffM_sub A B t ht))
  have HOB := Lib.hid (fun (t : T) (ht : t ∈ diffM B A) => hob t (diffM_sub B A t ht))
  have hd1 := diffM_length A B
  have hd2 := diffM_length B A
  have HR := Lib.hid (show rowsT g A B = if diffM A B = [] ∧ diffM B A = [] then 0 else if overT g (diffM A B) (diffM B A) then 1 else if overT g (diffM B A) (diffM A B) then -1 else 2 from rfl)
  clear hG hA hB hoa hob hsa hsb
  generalize diffM A B = x at *
  generalize diffM B A = y at *
  go_enter Tryz.func63, Tryz.ntmps63
  go_wp2_with fail
  refine C1.out.mono ?_
  rintro e w1 ⟨p1, c1, rfl, hX, hb1⟩
  have HX1 := Lib.hid hX
  have HB1 := Lib.hid hb1
  clear hX hb1
  go_wp2_with fail
  refine (C2.out w1 HB1.out).mono ?_
  rintro e w2 ⟨p2, c2, rfl, hY, hb2⟩
  have HX2 := Lib.hid ((HX1.out.below hb2).mono hb2.size)
  have HY2 := Lib.hid hY
  have HB2 := Lib.hid (HB1.out.trans (hb2.mono HB1.out.size))
  clear hY hb2 HX1
  by_cases h0 : x = [] ∧ y = []
  · have HZ := Lib.hid (show rowsT g A B = 0 from by rw [HR.out, if_pos h0])
    obtain ⟨rfl, rfl⟩ := h0
    go_wp2
    go_ret
    exact ⟨by rw [HZ.out]; rfl, HB2.out⟩
  have HR2 := Lib.hid (show rowsT g A B = if overT g x y then 1 else if overT g y x then -1 else 2 from by rw [HR.out, if_neg h0])
  have hrg : rightG g = true := by
    cases hue : x with
    | cons u us' => exact errT_right (HOA.out u (by rw [hue]; simp))
    | nil =>
      cases hve : y with
      | cons v vs' => exact errT_right (HOB.out v (by rw [hve]; simp))
      | nil => exact absurd ⟨hue, hve⟩ h0
  have CO1 := Lib.hid (rOver_any g hrg x y (fun t ht => errT_okT (HOA.out t ht)) (fun t ht => errT_okT (HOB.out t ht)) w2.heap.size ga gc p1 c1 p2 c2 w2 (Nat.le_refl _) (HGG.out w2 HB2.out) HX2.out HY2.out)
  have CO2 := Lib.hid (fun (W : World) (hW : Below w2.heap.size w2 W) => rOver_any g hrg y x (fun t ht => errT_okT (HOB.out t ht)) (fun t ht => errT_okT (HOA.out t ht)) w2.heap.size ga gc p2 c2 p1 c1 W hW.size ((HGG.out w2 HB2.out).below hW) (HY2.out.below hW) (HX2.out.below hW))
  have hlen : ((x.length : Int) + (y.length : Int) == 0) = false := by
    have : ¬ (x.length = 0 ∧ y.length = 0) := fun e => h0 ⟨List.eq_nil_of_length_eq_zero e.1, List.eq_nil_of_length_eq_zero e.2⟩
    simp only [beq_eq_false_iff_ne, ne_eq]; omega
  have hlen2 : ¬ ((x.length : Int) + (y.length : Int) = 0) := by simpa using hlen
  generalize overT g x y = q1 at *
  generalize overT g y x = q2 at *
  clear h0 hrg HX2 HY2 HOA HOB
  go_wp2_with fail
  refine CO1.out.mono ?_
  rintro e w3 ⟨rfl, hb3⟩
  have HB3 := Lib.hid (HB2.out.trans (hb3.mono HB2.out.size))
  have CO3 := Lib.hid (CO2.out w3 hb3)
  clear hb3
  cases q1 with
  | true =>
    have HZ := Lib.hid (show rowsT g A B = 1 from by rw [HR2.out]; rfl)
    go_wp2
    go_ret
    exact ⟨by rw [HZ.out]; rfl, HB3.out⟩
  | false =>
  go_wp2_with fail
  refine CO3.out.mono ?_
  rintro e w4 ⟨rfl, hb4⟩
  have HB4 := Lib.hid (HB3.out.trans (hb4.mono HB3.out.size))
  clear hb4
  cases q2 with
  | true =>
    have HZ := Lib.hid (show rowsT g A B = -1 from by rw [HR2.out]; rfl)
    go_wp2
    go_ret
    exact ⟨by rw [HZ.out]; rfl, HB4.out⟩
  | false =>
    have HZ := Lib.hid (show rowsT g A B = 2 from by rw [HR2.out]; rfl)
    go_wp2
    go_ret
    exact ⟨by rw [HZ.out]; rfl, HB4.out⟩
/-! ### Multi -/
end Go.Proofs.YtpncmdlbmnmahaaGreat

/- Contract of the document's answer for clauses: without. -/
namespace Go.Proofs.YtpncmdlbmnmahaaGreat
set_option linter.unusedVariables false
set_option linter.unusedSimpArgs false
open Go.RowKit
/-- A row of literals, new or of the caller's. -/
def ClPost (D : List Lt3) (w : World) (e : Ending) (w' : World) : Prop := ∃ (P : List LV) (p : Option Addr) (c : Nat), t3s P = D ∧ e = .returned (.slice p P.length c) ∧ IsCl w'.heap.size w' P p c ∧ Below w.heap.size w w'
end Go.Proofs.YtpncmdlbmnmahaaGreat

/- RfO: split off SOf. -/
namespace Go.Proofs.YtpncmdlbmnmahaaGreat
set_option linter.unusedVariables false
set_option linter.unusedSimpArgs false
open Go.RowKit
set_option maxRecDepth 100000 in
set_option maxHeartbeats 1000000 in
theorem refOf_any (s : Sb) (v : Int) (n₀ : Nat) (a : Option Addr) (c : Nat) (w : World) (hn : n₀ ≤ w.heap.size) (h1 : -9223372036854775808 ≤ v) (h2 : v ≤ 9223372036854775807) (hS : IsBs n₀ w s a c) :
    Calls Tryz.prog 122 #[.slice a s.length c, .int .i64 v] w (OfPost n₀ (ofS s v) w) := by
  have hl : s.length ≤ c ∧ c ≤ maxLen := ⟨hS.1, hS.2.1⟩
  unfold maxLen at hl
  obtain ⟨hl1, hl2⟩ := hl
  have HS := Lib.hid hS
  clear hS
  go_enter Tryz.func122, Tryz.ntmps122
  go_wp2
  obtain ⟨w1, hw1⟩ : ∃ w1, w.alloc (tmCells 0 none 0 0) = w1 := ⟨_, rfl⟩
  have hB1 : Below w.heap.size w w1 := by rw [← hw1]; exact (Below.refl _ w).alloc (Nat.le_refl _) _
  have hs1 : w1.heap.size = w.heap.size + 1 := by rw [← hw1]; simp
  have hres : ∀ W, Below (w.heap.size + 1) w1 W → W.cell? ⟨w.heap.size, 0, none⟩ = some (.int .i64 0) ∧ W.cell? ⟨w.heap.size, 1, none⟩ = some (.slice none 0 0) ∧ W.frozen? ⟨w.heap.size, 0, none⟩ = false ∧ W.frozen? ⟨w.heap.size, 1, none⟩ = false := fun W hW =>
    ⟨(hW.cell (p := ⟨w.heap.size, 0, none⟩) (by simp)).trans (by rw [← hw1]; simp [go_sem]), (hW.cell (p := ⟨w.heap.size, 1, none⟩) (by simp)).trans (by rw [← hw1]; simp [go_sem]), (hW.frozen (p := ⟨w.heap.size, 0, none⟩) (by simp)).trans (by rw [← hw1]; simp [go_sem]), (hW.frozen (p := ⟨w.heap.size, 1, none⟩) (by simp)).trans (by rw [← hw1]; simp [go_sem])⟩
  rw [hw1]
  have HRES := Lib.hid hres
  have HB1 := Lib.hid hB1
  have HS1 := Lib.hid hs1
  clear hres hB1 hs1 hw1
  go_loopw [5] (fun i wr => OfI s v w w1 i wr) (fun i _ => s.length - (intOf i).toNat)
  case atStart => exact ⟨0, Nat.zero_le _, rfl, rfl, Below.refl _ _⟩
  case round =>
    obtain ⟨k, hk, rfl, hof, hB⟩ := hrel
    obtain ⟨r0, r1, rf0, rf1⟩ := HRES.out wr hB
    have hz : w.heap.size + 1 ≤ wr.heap.size := by have := hB.size; have := HS1.out; omega
    have HO := Lib.hid hof
    have HB := Lib.hid hB
    have HW := Lib.hid (HB1.out.trans (hB.mono (by omega)))
    clear hof hB
    by_cases hlt : k < s.length
    · obtain ⟨b, o, x, t, a', c', rfl, hbn, hsk, hxw, htw, hc0, hc1, hc2, hA'⟩ := (HS.out.below (HW.out.mono hn)).elem (i := k) hlt
      have hk0 : (0 : Int) ≤ (k : Int) := Int.natCast_nonneg _
      have hk1 : (k : Int) < (s.length : Int) := by omega
      have HSK := Lib.hid (ofS_step v hsk)
      have HTW := Lib.hid htw
      have HA' := Lib.hid hA'
      have hbw : b < wr.heap.size := by omega
      have hzw : w.heap.size < wr.heap.size := by omega
      clear hsk htw hxw hA'
      by_cases hv : x = v
      · subst hv
        have hof : ofS s x = t := by rw [HO.out, HSK.out]; simp
        go_wp2
        refine bodyPost_ret (v := tm t.head a' t.args.length c') (by simp [results, Tryz.results122, go_sem, r0, r1, hzw]) rfl ?_
        first | rw [hof] | skip
        exact ⟨a', c', rfl, HTW.out, HA'.out.below (((Below.refl n₀ wr).setCell (p := ⟨w.heap.size, 0, none⟩) hn _).setCell (p := ⟨w.heap.size, 1, none⟩) hn _), ((HW.out.setCell (p := ⟨w.heap.size, 0, none⟩) (by simp) _).setCell (p := ⟨w.heap.size, 1, none⟩) (by simp) _)⟩
      · have hv1 : (x == v) = false := by simpa using hv
        go_wp2
        go_roundw
        case rel =>
          refine ⟨k + 1, by omega, by go_num, ?_, HB.out⟩
          rw [HO.out, HSK.out, if_neg hv]
        case measure => simp [intOf]; omega
    · have hof : ofS s v = vt v := by rw [HO.out, List.drop_of_length_le (by omega)]; rfl
      go_wp2_with fail
      refine (refVar_any v wr h1 h2).mono ?_
      rintro e w2 ⟨rfl, hb2⟩
      obtain ⟨r0', r1', rf0', rf1'⟩ := HRES.out w2 (HB.out.trans (hb2.mono (by omega)))
      have HB2 := Lib.hid (HW.out.trans (hb2.mono (by omega)))
      clear hb2 r0 r1 rf0 rf1
      go_wp2
      refine bodyPost_ret (v := tm (-1 - v) none 0 0) (by simp [results, Tryz.results122, go_sem, r0', r1']) rfl ?_
      rw [hof]
      refine ⟨none, 0, rfl, wf_vt h1 h2, ⟨by simp [vt, T.args], by simp [maxLen], .inl rfl⟩, ?_⟩
      exact (HB2.out.setCell (p := ⟨w.heap.size, 0, none⟩) (by simp) _).setCell (p := ⟨w.heap.size, 1, none⟩) (by simp) _
end Go.Proofs.YtpncmdlbmnmahaaGreat

/- Contract of the reference's Put (a term with all put). -/
namespace Go.Proofs.YtpncmdlbmnmahaaGreat
set_option linter.unusedVariables false
set_option linter.unusedSimpArgs false
open Go.RowKit
def okS3 (n₀ : Nat) (w : World) (v : Value) (wr : World) (b : Nat) : Prop := b < n₀ ∨ (w.heap.size + 3 ≤ b ∧ b < wr.heap.size ∧ v.ownBlock ≠ some b)
def SubI (h : Int) (ts : List T) (n₀ : Nat) (w w3 : World) (i : Value) (wr : World) : Prop :=
  ∃ (k : Nat) (v : Value) (xs : List Value), k ≤ ts.length ∧ i = .int .i64 k ∧ wr.heap[w.heap.size + 2]? = some (.cells #[.int .i64 h, v] 42 (0, 0)) ∧
    wr.ownsRow (w.heap.size + 3) 42 2 v k xs ∧ RowVals (okS3 n₀ w v wr) wr (ts.take k) xs ∧ Below (w.heap.size + 2) w3 wr
theorem sub_step {h : Int} {ts : List T} {n₀ : Nat} {s : T} {w w3 wr w4 w5 : World} {k : Nat} {v : Value} {xs : List Value} {a2 : Option Addr} {c2 g5 cap5 : Nat} {ob : Obj} (hn : n₀ ≤ w.heap.size) (hs : ts[k]? = some s) (hsw : (Lit.int .i64 s.head).wf = true)
    (hout : wr.heap[w.heap.size + 2]? = some (.cells #[.int .i64 h, v] 42 (0, 0))) (hown : wr.ownsRow (w.heap.size + 3) 42 2 v k xs) (hrv : RowVals (okS3 n₀ w v wr) wr (ts.take k) xs)
    (hB : Below (w.heap.size + 2) w3 wr) (hz : w.heap.size + 3 ≤ wr.heap.size) (hI4 : IsArgsp (fun b => b < n₀ ∨ wr.heap.size ≤ b ∧ b < w4.heap.size) w4 s.args a2 c2) (hB4 : Below wr.heap.size wr w4)
    (hown5 : w5.ownsRow (w.heap.size + 3) 42 2 (.slice (some ⟨g5, 0, none⟩) (k + 1) cap5) (k + 1) (xs ++ [.int .i64 s.head, .slice a2 s.args.length c2])) (hgrow5 : (w4.alloc ob).grownBy w5 v.ownBlock)
    (hat5 : v.ownBlock = some g5 ∨ g5 = w4.heap.size + 1) :
    SubI h ts n₀ w w3 (.int .i64 ((k + 1 : Nat) : Int)) (w5.setCell ⟨w.heap.size + 2, 1, none⟩ (.slice (some ⟨g5, 0, none⟩) (k + 1) cap5)) := by
  obtain ⟨hk, hks⟩ := List.getElem?_eq_some_iff.1 hs
  have hz4 : wr.heap.size ≤ w4.heap.size := hB4.size
  have hz5 : w4.heap.size + 1 ≤ w5.heap.size := by have := hgrow5.size; simpa using this
  have hlt := hown.lt
  have hbk : ∀ b, b < w4.heap.size → v.ownBlock ≠ some b → b ≠ w.heap.size + 2 → (w5.setCell ⟨w.heap.size + 2, 1, none⟩ (.slice (some ⟨g5, 0, none⟩) (k + 1) cap5)).heap[b]? = w4.heap[b]? := fun b h1 h2 h3 =>
    (Below.heap_setCell _ _ _ _ h3).trans ((hgrow5.block b (by simp; omega) (fun e => h2 e.symm)).trans (Below.heap_alloc _ _ _ h1))
  have hg5 : ∀ b, b < w4.heap.size → v.ownBlock ≠ some b → g5 ≠ b := fun b h1 h2 e => by
    subst e
    rcases hat5 with h | h
    · exact h2 h
    · omega
  have hlow : ∀ b, b < n₀ → v.ownBlock ≠ some b := fun b hb e => by have := hlt _ e; omega
  refine ⟨k + 1, _, _, by omega, rfl, ?_, ownsRow_setCell_below hown5 (by simp) _, ?_, ?_⟩
  · have h5 : w5.heap[w.heap.size + 2]? = some (.cells #[.int .i64 h, v] 42 (0, 0)) :=
      ((hgrow5.block _ (by simp; omega) (fun e => by have := hlt _ e.symm; omega)).trans ((Below.heap_alloc _ _ _ (by omega)).trans (hB4.block _ (by omega)))).trans hout
    rw [heap_setCell_same h5]
    rfl
  · rw [List.take_succ_eq_append_getElem hk, hks]
    refine RowVals.snoc hsw (hI4.keep (fun b hb => ?_) (fun b hb => ?_)) (hrv.keep (fun b hb => ?_) (fun b hb => ?_))
    · rcases hb with hb | hb
      · exact hbk b (by omega) (hlow b hb) (by omega)
      · exact hbk b hb.2 (fun e => by have := hlt _ e; omega) (by omega)
    · rcases hb with hb | hb
      · exact .inl hb
      · exact .inr ⟨by omega, by show b < _; simp; omega, fun e => hg5 b hb.2 (fun e => by have := hlt _ e; omega) (by simpa [Value.ownBlock] using e)⟩
    · rcases hb with hb | hb
      · exact (hbk b (by omega) (hlow b hb) (by omega)).trans (hB4.block b (by omega))
      · exact (hbk b (by have := hb.2.1; omega) hb.2.2 (by have := hb.1; omega)).trans (hB4.block b hb.2.1)
    · rcases hb with hb | hb
      · exact .inl hb
      · exact .inr ⟨hb.1, by show b < _; have := hb.2.1; simp; omega, fun e => hg5 b (by have := hb.2.1; omega) hb.2.2 (by simpa [Value.ownBlock] using e)⟩
  · exact (hB.trans (((hB4.mono (by omega)).alloc (by omega) ob).grown hgrow5 (by simp; omega) (fun k hk => by have := hlt k hk; omega))).setCell (p := ⟨w.heap.size + 2, 1, none⟩) (by simp) _
set_option maxRecDepth 100000 in
set_option maxHeartbeats 4000000 in
theorem refSub_any (s : Sb) : ∀ (N : Nat) (t : T), t.size ≤ N → t.size ≤ 1000000000000 → ∀ (n₀ : Nat) (a : Option Addr) (c : Nat) (as_ : Option Addr) (cs : Nat) (w : World), n₀ ≤ w.heap.size → (Lit.int .i64 t.head).wf = true → IsArgs n₀ w t.args a c → IsBs n₀ w s as_ cs →
    Calls Tryz.prog 95 #[.slice as_ s.length cs, tm t.head a t.args.length c] w (RPutPost (t.sub (ofS s)) n₀ w) := by
  intro N
  induction N with
  | zero => intro t ht; have := T.size_pos t; omega
  | succ N ih =>
    intro t ht hbig n₀ a c as_ cs w hn hwf hA hS
    have IH := Lib.hid ih
    have HWF := Lib.hid hwf
    have hsz := T.size_eq t
    have hlz := T.sizes_ge_length t.args
    have hlc : t.args.length ≤ c ∧ c ≤ maxLen := ⟨hA.1, hA.2.1⟩
    unfold maxLen at hlc
    obtain ⟨hl1, hl2⟩ := hlc
    obtain ⟨hw1, hw2⟩ := wf_low hwf
    have HS := Lib.hid hsz
    have hlen : t.args.length ≤ 1000000000000 := by omega
    have HA := Lib.hid hA
    have HSB := Lib.hid hS
    clear ih hwf hA hsz hlz hS
    obtain ⟨w2, hw2'⟩ : ∃ w2, (w.alloc (tmCells t.head a t.args.length c)).alloc (tmCells 0 none 0 0) = w2 := ⟨_, rfl⟩
    have hB2 : Below w.heap.size w w2 := by rw [← hw2']; exact ((Below.refl _ w).alloc (Nat.le_refl _) _).alloc (by simp) _
    have hs2 : w2.heap.size = w.heap.size + 2 := by rw [← hw2']; simp
    have L2 := Lib.hid (show ∀ W, Below (w.heap.size + 2) w2 W → W.cell? ⟨w.heap.size, 0, none⟩ = some (.int .i64 t.head) ∧ W.cell? ⟨w.heap.size, 1, none⟩ = some (.slice a t.args.length c) ∧ W.cell? ⟨w.heap.size + 1, 0, none⟩ = some (.int .i64 0) ∧ W.cell? ⟨w.heap.size + 1, 1, none⟩ = some (.slice none 0 0) ∧ W.frozen? ⟨w.heap.size + 1, 0, none⟩ = false ∧ W.frozen? ⟨w.heap.size + 1, 1, none⟩ = false from fun W hW =>
      ⟨(hW.cell (p := ⟨w.heap.size, 0, none⟩) (by simp)).trans (by rw [← hw2']; simp [go_sem]), (hW.cell (p := ⟨w.heap.size, 1, none⟩) (by simp)).trans (by rw [← hw2']; simp [go_sem]), (hW.cell (p := ⟨w.heap.size + 1, 0, none⟩) (by simp)).trans (by rw [← hw2']; simp [go_sem]), (hW.cell (p := ⟨w.heap.size + 1, 1, none⟩) (by simp)).trans (by rw [← hw2']; simp [go_sem]), (hW.frozen (p := ⟨w.heap.size + 1, 0, none⟩) (by simp)).trans (by rw [← hw2']; simp [go_sem]), (hW.frozen (p := ⟨w.heap.size + 1, 1, none⟩) (by simp)).trans (by rw [← hw2']; simp [go_sem])⟩)
    have HB2 := Lib.hid hB2
    have HS2 := Lib.hid hs2
    clear hB2 hs2
    obtain ⟨c0, c1, r0, r1, rf0, rf1⟩ := L2.out w2 (Below.refl _ _)
    by_cases q : t.head < 0
    · have hsub := T.sub_neg (f := (ofS s)) q
      have CO := Lib.hid (refOf_any s (-1 - t.head) n₀ as_ cs w2 (by have := HS2.out; omega) (by omega) (by omega) (HSB.out.below (HB2.out.mono hn)))
      go_enter Tryz.func95, Tryz.ntmps95
      go_wp2_with fail
      refine CO.out.mono ?_
      rintro e w3 ⟨a3, c3, rfl, hw3, hA3, hb3⟩
      clear c0 c1 r0 r1 rf0 rf1 hw2'
      obtain ⟨c0, c1, r0, r1, rf0, rf1⟩ := L2.out w3 (by rw [← HS2.out]; exact hb3)
      generalize ofS s (-1 - t.head) = x at hsub hw3 hA3 ⊢
      have HW3 := Lib.hid hw3
      have HI3 := Lib.hid hA3
      have HB3 := Lib.hid (HB2.out.trans (hb3.mono HB2.out.size))
      clear hw3 hA3 hb3
      go_wp2
      refine bodyPost_ret (v := tm x.head a3 x.args.length c3) (by simp [results, Tryz.results95, go_sem, r0, r1]) rfl ?_
      first | rw [hsub] | skip
      refine ⟨a3, c3, rfl, HW3.out, (isArgsp_lt.2 HI3.out).keep (fun b hb => ?_) (fun b hb => .inl hb), (HB3.out.setCell (p := ⟨w.heap.size + 1, 0, none⟩) (by simp) _).setCell (p := ⟨w.heap.size + 1, 1, none⟩) (by simp) _⟩
      exact (Below.heap_setCell _ _ _ _ (by show b ≠ w.heap.size + 1; omega)).trans (Below.heap_setCell _ _ _ _ (by show b ≠ w.heap.size + 1; omega))
    · have HSUB := Lib.hid (T.sub_pos (f := (ofS s)) q)
      obtain ⟨i0, hi, hz0, hz1, hz2⟩ := info_parts infoTerm
      go_enter Tryz.func95, Tryz.ntmps95
      go_wp2
      obtain ⟨w3, hw3⟩ : ∃ w3, w2.alloc (tmCells t.head none 0 0) = w3 := ⟨_, rfl⟩
      have hB3 : Below w.heap.size w w3 := by rw [← hw3]; exact HB2.out.alloc HB2.out.size _
      have hs3 : w3.heap.size = w.heap.size + 3 := by rw [← hw3]; have := HS2.out; simp; omega
      have hb23 : Below (w.heap.size + 2) w2 w3 := by rw [← hw3]; exact (Below.refl _ _).alloc (by have := HS2.out; omega) _
      have hout : w3.heap[w.heap.size + 2]? = some (.cells #[.int .i64 t.head, .slice none 0 0] 42 (0, 0)) := by
        rw [← hw3, ← HS2.out]
        exact heap_alloc_new w2 (tmCells t.head none 0 0)
      have HB3 := Lib.hid hB3
      have HS3 := Lib.hid hs3
      have HOUT := Lib.hid hout
      have H23 := Lib.hid hb23
      have hsz2 := HS2.out
      rw [hw3, hsz2]
      obtain ⟨ts', hts⟩ : ∃ ts', t.args.map (T.sub (ofS s)) = ts' := ⟨_, rfl⟩
      have hll : ts'.length = t.args.length := by rw [← hts]; simp
      have HTS := Lib.hid (show ∀ (k : Nat) (x : T), t.args[k]? = some x → ts'[k]? = some (x.sub (ofS s)) from fun k x h => by rw [← hts, List.getElem?_map, h]; rfl)
      have HTE := Lib.hid hts
      clear hw3 hB3 hs3 hout hb23 hts hw2' c0 c1 r0 r1 rf0 rf1 hsz2
      go_loopw [6] (fun i wr => SubI t.head ts' n₀ w w3 i wr) (fun i _ => t.args.length - (intOf i).toNat)
      case atStart => exact ⟨0, _, [], Nat.zero_le _, rfl, HOUT.out, World.ownsRow_nil _ _ _ _, trivial, Below.refl _ _⟩
      case round =>
        obtain ⟨k, v, xs, hk, rfl, hout, hown, hrv, hB⟩ := hrel
        rw [hll] at hk
        have hz : w.heap.size + 3 ≤ wr.heap.size := by have := hB.size; have := HS3.out; omega
        have hw : Below w.heap.size w wr := HB3.out.trans (hB.mono (by omega))
        have h2w : Below (w.heap.size + 2) w2 wr := H23.out.trans hB
        obtain ⟨c0, c1, r0, r1, rf0, rf1⟩ := L2.out wr h2w
        have ho0 : wr.cell? ⟨w.heap.size + 2, 0, none⟩ = some (.int .i64 t.head) := by simp [World.cell?, hout]
        have ho1 : wr.cell? ⟨w.heap.size + 2, 1, none⟩ = some v := by simp [World.cell?, hout]
        have hf1 : wr.frozen? ⟨w.heap.size + 2, 1, none⟩ = false := by simp [World.frozen?, hout]
        have HO := Lib.hid hown
        have HR := Lib.hid hrv
        have HW := Lib.hid hw
        have HBL := Lib.hid hB
        have HOUT' := Lib.hid hout
        clear hown hrv hw hB hout HOUT h2w
        by_cases hlt : k < t.args.length
        · obtain ⟨b, o, s_, a', c', rfl, hbn, hs, hswf, hc1, hc2, hA'⟩ := (HA.out.below (HW.out.mono hn)).elem (i := k) hlt
          have hsN : s_.size ≤ N := by have := T.size_lt_of_mem hs; have := HS.out; omega
          have hsb : s_.size ≤ 1000000000000 := by have := T.size_lt_of_mem hs; have := HS.out; omega
          have hbw : b < wr.heap.size := by omega
          have HA' := Lib.hid hA'
          have HSW := Lib.hid hswf
          have hk0 : (0 : Int) ≤ (k : Int) := Int.natCast_nonneg _
          have hk1 : (k : Int) < (t.args.length : Int) := by omega
          have hoB : w.heap.size + 2 < wr.heap.size := by omega
          have hxB : w.heap.size < wr.heap.size := by omega
          have hk2 : k + 1 ≤ maxLen := by unfold maxLen; omega
          have cc : Calls Tryz.prog 95 #[.slice as_ s.length cs, tm s_.head a' s_.args.length c'] wr.drew (RPutPost (s_.sub (ofS s)) n₀ wr.drew) := IH.out s_ hsN hsb n₀ a' c' as_ cs wr.drew (by show n₀ ≤ wr.heap.size; omega) HSW.out (HA'.out.below (Below.refl _ _).drew) ((HSB.out.below (HW.out.mono hn)).below (Below.refl _ _).drew)
          obtain ⟨y, hy⟩ : ∃ y, s_.sub (ofS s) = y := ⟨_, rfl⟩
          have HTY := Lib.hid (hy ▸ HTS.out k s_ hs)
          rw [hy] at cc
          have CC := Lib.hid cc
          clear cc hs hA' hswf hy r0 r1 rf0 rf1
          go_wp2
          go_region_law (first
              | (refine step_append_lies _ (by rfl) _ _ _ (by rfl) (w.heap.size + 3) 42 i0 _ 2 32 Tryz.underlying40 hi hz0 hz1 hz2 rfl (by omega) v k xs (by rfl) ((ownsRow_later HO.out hB4w).alloc _)
                  ⟨w4.heap.size, 0, none⟩ 1 1 [.int .i64 y.head, .slice a2 y.args.length c2] (by rfl) (by rfl) (World.news_of_block (cs := #[.int .i64 y.head, .slice a2 y.args.length c2]) (t := 42) (fr := (0, 0)) (heap_alloc_new w4 _)) (by simp [Value.oneCell'])
                  (by omega) hk2 (by omega) (by simp; omega) (w4.heap.size + 1) (by simp) ?_; intro g5 cap5 w5 hown5 hgrow5 hat5 hlt5; have hB5x : Below (w.heap.size + 3) wr w5 := ((hB4w.mono hz).alloc hz4 _).grown hgrow5 (by simp; omega) (fun k hk => (HO.out.lt k hk).1); have ho5 := (hB5x.cell (p := ⟨w.heap.size + 2, 1, none⟩) (by simp)).trans ho1; have hf5 := (hB5x.frozen (p := ⟨w.heap.size + 2, 1, none⟩) (by simp)).trans hf1)
              | (go_simp; go_at_call 95; refine CC.out.mono ?_; rintro e w4 ⟨a2, c2, rfl, hwf4, hI4, hb4⟩; have hB4w : Below wr.heap.size wr w4 := ⟨hb4.os, hb4.tape, hb4.output, hb4.size, hb4.block⟩; have hz4 : w.heap.size + 3 ≤ w4.heap.size := Nat.le_trans hz hB4w.size; have ho4 := (hB4w.cell (p := ⟨w.heap.size + 2, 1, none⟩) (by simp; omega)).trans ho1; have ho4' : ∀ ob, (w4.alloc ob).cell? ⟨w.heap.size + 2, 1, none⟩ = some v := fun ob => (World.cell?_of_block (a := ⟨w.heap.size + 2, 1, none⟩) (Below.heap_alloc w4 ob _ (by simp; omega))).trans ho4))
          all_goals
            go_wp2
            go_roundw
            case rel => exact sub_step hn HTY.out hwf4 HOUT'.out HO.out HR.out HBL.out hz hI4 hB4w hown5 hgrow5 hat5
            case measure => simp [intOf]; omega
        · obtain rfl : k = t.args.length := by omega
          have hr := HR.out
          rw [← hll, List.take_length] at hr
          have ho := HO.out
          rw [← hll] at ho
          obtain ⟨a2, c2, rfl, hI⟩ := argsp_of_owns (ok' := fun b => b ≠ w.heap.size + 1 ∧ (b < n₀ ∨ w.heap.size ≤ b ∧ b < wr.heap.size)) ho hr (fun b hb => by
            rcases hb with hb | hb
            · exact ⟨by omega, .inl hb⟩
            · exact ⟨by have := hb.1; omega, .inr ⟨by have := hb.1; omega, hb.2.1⟩⟩) (fun g hg => by have := ho.lt g hg; exact ⟨by omega, .inr ⟨by omega, by omega⟩⟩)
          have HI := Lib.hid hI
          clear hI hr ho
          go_wp2
          refine bodyPost_ret (v := tm t.head a2 ts'.length c2) (by simp [results, Tryz.results95, go_sem, r0, r1, hll]) rfl ?_
          rw [HSUB.out, HTE.out]
          refine ⟨a2, c2, rfl, HWF.out, HI.out.keep (fun b hb => (Below.heap_setCell _ _ _ _ (by simpa using hb.1)).trans (Below.heap_setCell _ _ _ _ (by simpa using hb.1))) (fun b hb => by simpa using hb.2), ?_⟩
          exact (HW.out.setCell (p := ⟨w.heap.size + 1, 0, none⟩) (by simp) _).setCell (p := ⟨w.heap.size + 1, 1, none⟩) (by simp) _
end Go.Proofs.YtpncmdlbmnmahaaGreat

/- Contract of the reference's Right (split off RCk). -/
namespace Go.Proofs.YtpncmdlbmnmahaaGreat
set_option linter.unusedVariables false
set_option linter.unusedSimpArgs false
open Go.RowKit
theorem refRight_any (t : T) (ht : t.size ≤ 1000000000000) (n₀ : Nat) (a : Option Addr) (c : Nat) (w : World) (hn : n₀ ≤ w.heap.size) (hA : IsArgs n₀ w t.args a c) :
    Calls Tryz.prog 93 #[tm t.head a t.args.length c] w fun e w' => e = .returned (.bool (decide (t.check = 0))) ∧ Below w.heap.size w w' := by
  have hb1 := (Below.refl w.heap.size w).alloc (Nat.le_refl _) (tmCells t.head a t.args.length c)
  have HC := Lib.hid (refCheck_any t ht n₀ a c (w.alloc (tmCells t.head a t.args.length c)) (by simp; omega) (hA.below (hb1.mono hn)))
  have HB := Lib.hid hb1
  clear hb1 hA
  go_enter Tryz.func93, Tryz.ntmps93
  go_wp2_with fail
  refine HC.out.mono ?_
  rintro e w2 ⟨rfl, hb2⟩
  have HB2 := Lib.hid (HB.out.trans (hb2.mono HB.out.size))
  clear hb2
  go_wp2
  go_ret
  refine ⟨?_, HB2.out⟩
  rfl
end Go.Proofs.YtpncmdlbmnmahaaGreat

/- Contracts of the document's Put of clauses. -/
namespace Go.Proofs.YtpncmdlbmnmahaaGreat
set_option linter.unusedVariables false
set_option linter.unusedSimpArgs false
open Go.RowKit
/-- All blocks but the row's own. -/
def okD (v : Value) (W : World) (b : Nat) : Prop := b < W.heap.size ∧ v.ownBlock ≠ some b
/-- A new literal is appended to a row of one's own. -/
theorem ol_step {n₁ g cap k : Nat} {wr uf w8 : World} {v : Value} {O : List LV} {z : LV} {ob : Obj} (hk : O.length = k) (hO : OL (okD v wr) n₁ v O wr) (hB : Below wr.heap.size wr uf) (hn : n₁ ≤ wr.heap.size) (hz : IsLvp (fun b => b < uf.heap.size ∧ v.ownBlock ≠ some b) uf z)
    (hown : w8.ownsRow n₁ 44 5 (.slice (some ⟨g, 0, none⟩) (k + 1) cap) (k + 1) (lcells O ++ z.cells)) (hgrow : (uf.alloc ob).grownBy w8 v.ownBlock) (hat : v.ownBlock = some g ∨ g = uf.heap.size + 1) :
    OL (okD (.slice (some ⟨g, 0, none⟩) (k + 1) cap) w8) n₁ (.slice (some ⟨g, 0, none⟩) (k + 1) cap) (O ++ [z]) w8 ∧ Below n₁ wr w8 := by
  have hsz : (uf.alloc ob).heap.size = uf.heap.size + 1 := by simp
  have hz8 := hgrow.size
  have hbs := hB.size
  have hbk : ∀ b, b < uf.heap.size → v.ownBlock ≠ some b → w8.heap[b]? = uf.heap[b]? := fun b h1 h2 =>
    (hgrow.block b (by omega) (fun e => h2 e.symm)).trans (Below.heap_alloc _ _ _ h1)
  have hok : ∀ b, b < uf.heap.size → v.ownBlock ≠ some b → okD (.slice (some ⟨g, 0, none⟩) (k + 1) cap) w8 b := fun b h1 h2 => by
    refine ⟨by omega, fun e => ?_⟩
    have e' : g = b := by simpa [Value.ownBlock] using e
    subst e'
    rcases hat with hat | hat
    · exact h2 hat
    · omega
  refine ⟨⟨?_, fun y hy => ?_⟩, ?_⟩
  · rw [lcells_append, List.length_append, hk]
    simpa [lcells] using hown
  · rcases List.mem_append.1 hy with hy | hy
    · exact (hO.2 y hy).keep (fun b hb => (hbk b (by have := hb.1; omega) hb.2).trans (hB.block b hb.1)) (fun b hb => hok b (by have := hb.1; omega) hb.2)
    · simp at hy; subst hy
      exact hz.keep (fun b hb => hbk b hb.1 hb.2) (fun b hb => hok b hb.1 hb.2)
  · have h1 : Below n₁ wr (uf.alloc ob) := (hB.mono hn).alloc (by omega) _
    exact h1.trans ((Below.refl n₁ _).grown hgrow (by omega) (fun q hq => (hO.block hq).1))
end Go.Proofs.YtpncmdlbmnmahaaGreat

/- Contract of the document's Norm of clauses. -/
namespace Go.Proofs.YtpncmdlbmnmahaaGreat
set_option linter.unusedVariables false
set_option linter.unusedSimpArgs false
open Go.RowKit
/-! ### Norm -/
def ClEPost (D : List Lt3) (k : Int) (w : World) (e : Ending) (w' : World) : Prop := ∃ (P : List LV) (p : Option Addr) (c : Nat), t3s P = D ∧ e = .returned (.tuple #[.slice p P.length c, .int .i64 k]) ∧ IsCl w'.heap.size w' P p c ∧ Below w.heap.size w w'
end Go.Proofs.YtpncmdlbmnmahaaGreat

/- Contract of the reference's end. -/
namespace Go.Proofs.YtpncmdlbmnmahaaGreat
set_option linter.unusedVariables false
set_option linter.unusedSimpArgs false
open Go.RowKit
set_option maxRecDepth 100000 in
set_option maxHeartbeats 1000000 in
theorem refEnd_any (x : T) (hx : x.size ≤ 1000000000000) (ok : Nat → Prop) (a : Option Addr) (c : Nat) (w : World) (hok : ∀ b, ok b → b < w.heap.size) (hwf : (Lit.int .i64 x.head).wf = true) (hA : IsArgsp ok w x.args a c) :
    Calls Tryz.prog 94 #[tm x.head a x.args.length c] w (TEPostp ok (endT x) x.check w) := by
  obtain ⟨w2, hw2⟩ : ∃ w2, (w.alloc (tmCells x.head a x.args.length c)).alloc (tmCells 0 none 0 0) = w2 := ⟨_, rfl⟩
  have hB2 : Below w.heap.size w w2 := by rw [← hw2]; exact ((Below.refl _ w).alloc (Nat.le_refl _) _).alloc (by simp) _
  have hs2 : w2.heap.size = w.heap.size + 2 := by rw [← hw2]; simp
  have L2 := Lib.hid (show ∀ W, Below w2.heap.size w2 W → W.cell? ⟨w.heap.size, 0, none⟩ = some (.int .i64 x.head) ∧ W.cell? ⟨w.heap.size, 1, none⟩ = some (.slice a x.args.length c) ∧ W.cell? ⟨w.heap.size + 1, 0, none⟩ = some (.int .i64 0) ∧ W.cell? ⟨w.heap.size + 1, 1, none⟩ = some (.slice none 0 0) ∧ W.frozen? ⟨w.heap.size + 1, 0, none⟩ = false ∧ W.frozen? ⟨w.heap.size + 1, 1, none⟩ = false from fun W hW =>
    ⟨(hW.cell (p := ⟨w.heap.size, 0, none⟩) (by simp; omega)).trans (by rw [← hw2]; simp [go_sem]), (hW.cell (p := ⟨w.heap.size, 1, none⟩) (by simp; omega)).trans (by rw [← hw2]; simp [go_sem]), (hW.cell (p := ⟨w.heap.size + 1, 0, none⟩) (by simp; omega)).trans (by rw [← hw2]; simp [go_sem]), (hW.cell (p := ⟨w.heap.size + 1, 1, none⟩) (by simp; omega)).trans (by rw [← hw2]; simp [go_sem]), (hW.frozen (p := ⟨w.heap.size + 1, 0, none⟩) (by simp; omega)).trans (by rw [← hw2]; simp [go_sem]), (hW.frozen (p := ⟨w.heap.size + 1, 1, none⟩) (by simp; omega)).trans (by rw [← hw2]; simp [go_sem])⟩)
  have CC := Lib.hid (refCheck_any x hx w.heap.size a c w2 (by omega) ((hA.toArgs hok).below hB2))
  have HW := Lib.hid hwf
  have HA := Lib.hid hA
  have HB2 := Lib.hid hB2
  clear hwf hA hB2 hs2
  obtain ⟨c0, c1, _, _, _, _⟩ := L2.out w2 (Below.refl _ _)
  go_enter Tryz.func94, Tryz.ntmps94
  go_wp2_with fail
  refine CC.out.mono ?_
  rintro e w3 ⟨rfl, hb3⟩
  clear c0 c1 hw2
  obtain ⟨c0, c1, r0, r1, rf0, rf1⟩ := L2.out w3 hb3
  have HB3 := Lib.hid (HB2.out.trans (hb3.mono HB2.out.size))
  have hz3 : w.heap.size ≤ w3.heap.size := HB3.out.size
  clear hb3
  have HE := Lib.hid (show endT x = if x.check = 0 then x else Z0 from rfl)
  by_cases q : x.check = 0
  · rw [q]
    have he : endT x = x := by unfold endT; rw [if_pos q]
    go_wp2
    refine bodyPost_ret (v := .tuple #[tm x.head a x.args.length c, .int .i64 0]) (by simp [results, Tryz.results94, go_sem, r0, r1]) rfl ?_
    first | rw [he, q] | rw [he] | rw [q] | skip
    exact ⟨a, c, rfl, HW.out, HA.out.keep (fun b hb => ((Below.heap_setCell _ _ _ _ (by have := hok b hb; show b ≠ w.heap.size + 1; omega)).trans (Below.heap_setCell _ _ _ _ (by have := hok b hb; show b ≠ w.heap.size + 1; omega))).trans (HB3.out.block b (hok b hb))) (fun b hb => hb), (HB3.out.setCell (p := ⟨w.heap.size + 1, 0, none⟩) (by simp) _).setCell (p := ⟨w.heap.size + 1, 1, none⟩) (by simp) _⟩
  · have he : endT x = Z0 := by unfold endT; rw [if_neg q]
    generalize hk : x.check = k at q he ⊢
    have HK := Lib.hid hk
    clear hk
    have hne : (k == 0) = false := by simpa using q
    go_wp2
    refine bodyPost_ret (v := .tuple #[tm 0 none 0 0, .int .i64 k]) (by simp [results, Tryz.results94, go_sem, r0, r1]) rfl ?_
    first | rw [he, HK.out] | rw [HK.out] | rw [he] | skip
    exact ⟨none, 0, rfl, wf_z0, isArgsp_z _ _, (HB3.out.setCell (p := ⟨w.heap.size + 1, 0, none⟩) (by simp) _).setCell (p := ⟨w.heap.size + 1, 1, none⟩) (by simp) _⟩
end Go.Proofs.YtpncmdlbmnmahaaGreat

/- Terms shifted; plain. -/
namespace Go.Proofs.YtpncmdlbmnmahaaGreat
set_option linter.unusedVariables false
set_option linter.unusedSimpArgs false
open Go.RowKit
theorem bl2 {w2 w7 w8 : World} {h : Int} {a : Option Addr} {n c : Nat} (hb : Below w2.heap.size w2 w7) (h8 : w8 = w7.alloc (tmCells h a n c)) : Below w2.heap.size w2 w8 := by
  subst h8
  exact hb.alloc hb.size _
end Go.Proofs.YtpncmdlbmnmahaaGreat
