/- Q8b: joined of R8e, WKRo. -/
import Derived.Test.YtbfanbaijombaaaQ8a
import Derived.Test.YtbfanbaijombaaaQ1p
/- Contracts of the document's answer for rows (layer 8): over, Rows, Multi. -/
namespace Go.Proofs.Ytbfanbaijombaaa
set_option linter.unusedVariables false
set_option linter.unusedSimpArgs false
open Go.RowKit

def ovAll (g : Sg) (x y : List T) : Bool := y.all fun u => x.any fun t => gtK g t u
def OvI (g : Sg) (x y : List T) (w1 : World) (i : Value) (wr : World) : Prop := ∃ k : Nat, k ≤ y.length ∧ i = .int .i64 k ∧ ovAll g x y = ovAll g x (y.drop k) ∧ Below w1.heap.size w1 wr
def OvJ (g : Sg) (x : List T) (u : T) (w1 : World) (av j : Value) (wr : World) : Prop := ∃ k : Nat, k ≤ x.length ∧ j = .int .i64 k ∧ av = .bool ((x.take k).any fun t => gtK g t u) ∧ Below w1.heap.size w1 wr
theorem any_snoc {x : List T} {k : Nat} {t : T} (h : x[k]? = some t) (f : T → Bool) : (x.take (k + 1)).any f = ((x.take k).any f || f t) := by
  rw [List.take_add_one, h]; simp
theorem ov_step {g : Sg} {x y : List T} {k : Nat} {u : T} (h : y[k]? = some u) : ovAll g x (y.drop k) = ((x.any fun t => gtK g t u) && ovAll g x (y.drop (k + 1))) := by
  obtain ⟨hkl, hke⟩ := List.getElem?_eq_some_iff.1 h
  rw [List.drop_eq_getElem_cons hkl, hke]; rfl

set_option maxRecDepth 100000 in
set_option maxHeartbeats 4000000 in
theorem rOver_any (g : Sg) (hr : rightG g = true) (x y : List T) (hx : ∀ t ∈ x, OkT g t) (hy : ∀ t ∈ y, OkT g t) (n₀ : Nat) (ga : Option Addr) (gc : Nat) (pa : Option Addr) (ca : Nat) (pb : Option Addr) (cb : Nat) (w : World) (hn : n₀ ≤ w.heap.size) (hG : IsSg n₀ w g ga gc) (hA : IsArgs n₀ w x pa ca) (hB : IsArgs n₀ w y pb cb) :
    Calls Try.prog 60 #[.slice ga g.length gc, .slice pa x.length ca, .slice pb y.length cb] w fun e w' => e = .returned (.bool (overT g x y)) ∧ Below w.heap.size w w' := by
  have HG := Lib.hid (hG.mono hn)
  have HA := Lib.hid (hA.mono hn)
  have HB := Lib.hid (hB.mono hn)
  have hla1 := hA.1
  have hla2 := hA.2.1
  have hlb1 := hB.1
  have hlb2 := hB.2.1
  unfold maxLen at hla2 hlb2
  have HXO := Lib.hid hx
  have HYO := Lib.hid hy
  have HOV := Lib.hid (show overT g x y = (decide (0 < x.length) && ovAll g x y) from by
    unfold overT ovAll
    congr 1
    cases x <;> simp)
  clear hA hB hG hx hy
  go_enter Try.func60, Try.ntmps60
  go_wp2
  go_loopw [7] (fun i wr => OvI g x y w i wr) (fun i _ => y.length - (intOf i).toNat)
  case atStart => exact ⟨0, Nat.zero_le _, rfl, by simp, Below.refl _ _⟩
  case round =>
    obtain ⟨k, hk, rfl, hE, hb⟩ := hrel
    have HE := Lib.hid hE
    have HBo := Lib.hid hb
    have hnz := hb.size
    clear hE hb
    by_cases hlt : k < y.length
    · obtain ⟨b1, o1, u, a1, c1, rfl, hb1, hu, huw, e0, e1, huA⟩ := (HB.out.below HBo.out).elem (i := k) hlt
      have hk0 : (0 : Int) ≤ (k : Int) := Int.natCast_nonneg _
      have hk1 : (k : Int) < (y.length : Int) := by omega
      have HU := Lib.hid (And.intro hu (And.intro huw huA))
      have HST := Lib.hid (ov_step (g := g) (x := x) hu)
      have HUO := Lib.hid (HYO.out u (List.mem_of_getElem? hu))
      clear hu huw huA
      have hb1w : b1 < wr.heap.size := by omega
      obtain ⟨wo, rfl⟩ : ∃ wo, wo = wr := ⟨_, rfl⟩
      go_wp2
      go_loopw [8, 9] (fun av jv W' => OvJ g x u wo av jv W') (fun av jv _ => x.length - (intOf jv).toNat)
      case atStart => exact ⟨0, Nat.zero_le _, rfl, rfl, Below.refl _ _⟩
      case round =>
        obtain ⟨j, hj, rfl, rfl, hB2⟩ := hrel
        have HB2 := Lib.hid hB2
        have hB2z := hB2.size
        have e0' := (hB2.cell (p := ⟨b1, _, none⟩) hb1w).trans e0
        have e1' := (hB2.cell (p := ⟨b1, _, none⟩) hb1w).trans e1
        have HBw := Lib.hid (HBo.out.trans (hB2.mono hnz))
        clear hB2
        have hj0 : (0 : Int) ≤ (j : Int) := Int.natCast_nonneg _
        by_cases hjb : j < x.length
        · have hj1 : (j : Int) < (x.length : Int) := by omega
          obtain ⟨b2, o2, t, a2, c2, rfl, hb2, ht, htw, f0, f1, htA⟩ := (HA.out.below HBw.out).elem (i := j) hjb
          have HAN := Lib.hid (any_snoc ht (fun t => gtK g t u))
          have HTO := Lib.hid (HXO.out t (List.mem_of_getElem? ht))
          have hb2w : b2 < wr.heap.size := by omega
          clear ht
          obtain ⟨q, hq⟩ : ∃ q, ((x.take j).any fun t => gtK g t u) = q := ⟨_, rfl⟩
          rw [hq] at HAN ⊢
          clear hq
          cases q with
          | true =>
            go_wp2
            go_quiet (fail)
            go_wp2
            go_roundw
            case rel => exact ⟨j + 1, by omega, by go_num, by rw [HAN.out]; rfl, HB2.out.trans ((bl_drew' _ _).mono (by omega))⟩
            case measure => simp [intOf]; omega
          | false =>
            have KP := Lib.hid (show ∀ W, Below wr.heap.size wr W → (W.cell? ⟨b1, o1 + k * 2, none⟩ = some (.int .i64 u.head) ∧ W.cell? ⟨b1, o1 + k * 2 + 1, none⟩ = some (.slice a1 u.args.length c1)) ∧ (W.cell? ⟨b2, o2 + j * 2, none⟩ = some (.int .i64 t.head) ∧ W.cell? ⟨b2, o2 + j * 2 + 1, none⟩ = some (.slice a2 t.args.length c2)) ∧ Below wr.heap.size wr W from fun W hW =>
              ⟨⟨(hW.cell (p := ⟨b1, _, none⟩) (by show b1 < _; omega)).trans e0', (hW.cell (p := ⟨b1, _, none⟩) (by show b1 < _; omega)).trans e1'⟩, ⟨(hW.cell (p := ⟨b2, _, none⟩) (by show b2 < _; omega)).trans f0, (hW.cell (p := ⟨b2, _, none⟩) (by show b2 < _; omega)).trans f1⟩, hW⟩)
            have CG := Lib.hid (fun (W : World) (hW : Below wr.heap.size wr W) => greater_any g hr t.size t u (Nat.le_refl _) HTO.out HUO.out w.heap.size ga gc a2 c2 a1 c1 W (by have := hW.size; omega) ((HG.out.below HBw.out).below (hW.mono (by omega))) htw HU.out.2.1 (htA.below (hW.mono (by omega))) ((HU.out.2.2.below (HB2.out.mono hnz)).below (hW.mono (by omega))))
            obtain ⟨⟨p1, p2⟩, ⟨p3, p4⟩, _⟩ := KP.out _ (Below.refl _ _)
            clear htw htA e0' e1' f0 f1
            generalize gtK g t u = q at *
            go_wp2_with fail
            refine wp_region_noPanic ?_
            go_region_held3 (fun w' => (w'.cell? ⟨b1, o1 + k * 2, none⟩ = some (.int .i64 u.head) ∧ w'.cell? ⟨b1, o1 + k * 2 + 1, none⟩ = some (.slice a1 u.args.length c1)) ∧ (w'.cell? ⟨b2, o2 + j * 2, none⟩ = some (.int .i64 t.head) ∧ w'.cell? ⟨b2, o2 + j * 2 + 1, none⟩ = some (.slice a2 t.args.length c2)) ∧ Below wr.heap.size wr w')
              (first
                | exact KP.out _ (Below.refl _ _)
                | exact KP.out _ (Below.refl _ _).drew
                | exact KP.out _ hB)
              (first
                | (go_at_call 54; with_reducible refine (CG.out _ (‹_ ∧ _ ∧ Below wr.heap.size wr _›.2.2)).mono ?_; rintro e u1 ⟨rfl, hu⟩; have hB := bl_call (‹_ ∧ _ ∧ Below wr.heap.size wr _›.2.2) hu; have hfin := hB))
            all_goals
              refine NoPanic.normal ?_
              have HFIN := Lib.hid (HB2.out.trans (hfin.mono hB2z))
              go_wp2
              go_roundw
              case rel => exact ⟨j + 1, by omega, by go_num, by rw [HAN.out]; rfl, HFIN.out⟩
              case measure => simp [intOf]; omega
        · obtain rfl : j = x.length := by omega
          rw [List.take_length]
          obtain ⟨q, hq⟩ : ∃ q, (x.any fun t => gtK g t u) = q := ⟨_, rfl⟩
          rw [hq] at HST ⊢
          clear hq
          cases q with
          | true =>
            have HN := Lib.hid (show ovAll g x y = ovAll g x (y.drop (k + 1)) from by rw [HE.out, HST.out]; rfl)
            go_wp2
            go_roundw
            case rel => exact ⟨k + 1, by omega, by go_num, HN.out, HBw.out⟩
            case measure => simp [intOf]; omega
          | false =>
            have HN := Lib.hid (show overT g x y = false from by rw [HOV.out, HE.out, HST.out]; simp)
            go_wp2
            go_ret
            exact ⟨by rw [HN.out]; rfl, HBw.out⟩
    · obtain rfl : k = y.length := by omega
      have HN := Lib.hid (show overT g x y = decide (0 < x.length) from by rw [HOV.out, HE.out, List.drop_of_length_le (Nat.le_refl _)]; simp [ovAll])
      go_wp2
      go_ret
      exact ⟨by rw [HN.out]; rfl, HBo.out⟩

set_option maxRecDepth 100000 in
set_option maxHeartbeats 4000000 in
theorem rRows_any (g : Sg) (A B : List T) (hoa : ∀ t ∈ A, errT g t = 0) (hob : ∀ t ∈ B, errT g t = 0) (hla : A.length ≤ 1000000) (hlb : B.length ≤ 1000000) (hsa : ∀ t ∈ A, t.size ≤ 1000000000000) (hsb : ∀ t ∈ B, t.size ≤ 1000000000000) (n₀ : Nat) (ga : Option Addr) (gc : Nat) (pa : Option Addr) (ca : Nat) (pb : Option Addr) (cb : Nat) (w : World) (hn : n₀ ≤ w.heap.size) (hG : IsSg n₀ w g ga gc) (hA : IsArgs n₀ w A pa ca) (hB : IsArgs n₀ w B pb cb) :
    Calls Try.prog 32 #[.slice ga g.length gc, .slice pa A.length ca, .slice pb B.length cb] w fun e w' => e = .returned (.int .i64 (rowsT g A B)) ∧ Below w.heap.size w w' := by
  have C1 := Lib.hid (rWithout_any A B hla hlb hsa hsb n₀ pa ca pb cb w hn hA hB)
  have C2 := Lib.hid (fun (W : World) (hW : Below w.heap.size w W) => rWithout_any B A hlb hla hsb hsa n₀ pb cb pa ca W (Nat.le_trans hn hW.size) (hB.below (hW.mono hn)) (hA.below (hW.mono hn)))
  have HGG := Lib.hid (fun (W : World) (hW : Below w.heap.size w W) => (hG.below (hW.mono hn)).mono (Nat.le_trans hn hW.size))
  have HOA := Lib.hid (fun (t : T) (ht : t ∈ diffM A B) => hoa t (diffM_sub A B t ht))
  have HOB := Lib.hid (fun (t : T) (ht : t ∈ diffM B A) => hob t (diffM_sub B A t ht))
  have hd1 := diffM_length A B
  have hd2 := diffM_length B A
  have HR := Lib.hid (show rowsT g A B = if diffM A B = [] ∧ diffM B A = [] then 0 else if overT g (diffM A B) (diffM B A) then 1 else if overT g (diffM B A) (diffM A B) then -1 else 2 from rfl)
  clear hG hA hB hoa hob hsa hsb
  generalize diffM A B = x at *
  generalize diffM B A = y at *
  go_enter Try.func32, Try.ntmps32
  go_wp2_with fail
  refine C1.out.mono ?_
  rintro e w1 ⟨p1, c1, rfl, hX, hb1⟩
  have HX1 := Lib.hid hX
  have HB1 := Lib.hid hb1
  clear hX hb1
  go_wp2_with fail
  refine (C2.out w1 HB1.out).mono ?_
  rintro e w2 ⟨p2, c2, rfl, hY, hb2⟩
  have HX2 := Lib.hid ((HX1.out.below hb2).mono hb2.size)
  have HY2 := Lib.hid hY
  have HB2 := Lib.hid (HB1.out.trans (hb2.mono HB1.out.size))
  clear hY hb2 HX1
  by_cases h0 : x = [] ∧ y = []
  · have HZ := Lib.hid (show rowsT g A B = 0 from by rw [HR.out, if_pos h0])
    obtain ⟨rfl, rfl⟩ := h0
    go_wp2
    go_ret
    exact ⟨by rw [HZ.out]; rfl, HB2.out⟩
  have HR2 := Lib.hid (show rowsT g A B = if overT g x y then 1 else if overT g y x then -1 else 2 from by rw [HR.out, if_neg h0])
  have hrg : rightG g = true := by
    cases hue : x with
    | cons u us' => exact errT_right (HOA.out u (by rw [hue]; simp))
    | nil =>
      cases hve : y with
      | cons v vs' => exact errT_right (HOB.out v (by rw [hve]; simp))
      | nil => exact absurd ⟨hue, hve⟩ h0
  have CO1 := Lib.hid (rOver_any g hrg x y (fun t ht => errT_okT (HOA.out t ht)) (fun t ht => errT_okT (HOB.out t ht)) w2.heap.size ga gc p1 c1 p2 c2 w2 (Nat.le_refl _) (HGG.out w2 HB2.out) HX2.out HY2.out)
  have CO2 := Lib.hid (fun (W : World) (hW : Below w2.heap.size w2 W) => rOver_any g hrg y x (fun t ht => errT_okT (HOB.out t ht)) (fun t ht => errT_okT (HOA.out t ht)) w2.heap.size ga gc p2 c2 p1 c1 W hW.size ((HGG.out w2 HB2.out).below hW) (HY2.out.below hW) (HX2.out.below hW))
  have hlen : ((x.length : Int) + (y.length : Int) == 0) = false := by
    have : ¬ (x.length = 0 ∧ y.length = 0) := fun e => h0 ⟨List.eq_nil_of_length_eq_zero e.1, List.eq_nil_of_length_eq_zero e.2⟩
    simp only [beq_eq_false_iff_ne, ne_eq]; omega
  have hlen2 : ¬ ((x.length : Int) + (y.length : Int) = 0) := by simpa using hlen
  generalize overT g x y = q1 at *
  generalize overT g y x = q2 at *
  clear h0 hrg HX2 HY2 HOA HOB
  go_wp2_with fail
  refine CO1.out.mono ?_
  rintro e w3 ⟨rfl, hb3⟩
  have HB3 := Lib.hid (HB2.out.trans (hb3.mono HB2.out.size))
  have CO3 := Lib.hid (CO2.out w3 hb3)
  clear hb3
  cases q1 with
  | true =>
    have HZ := Lib.hid (show rowsT g A B = 1 from by rw [HR2.out]; rfl)
    go_wp2
    go_ret
    exact ⟨by rw [HZ.out]; rfl, HB3.out⟩
  | false =>
  go_wp2_with fail
  refine CO3.out.mono ?_
  rintro e w4 ⟨rfl, hb4⟩
  have HB4 := Lib.hid (HB3.out.trans (hb4.mono HB3.out.size))
  clear hb4
  cases q2 with
  | true =>
    have HZ := Lib.hid (show rowsT g A B = -1 from by rw [HR2.out]; rfl)
    go_wp2
    go_ret
    exact ⟨by rw [HZ.out]; rfl, HB4.out⟩
  | false =>
    have HZ := Lib.hid (show rowsT g A B = 2 from by rw [HR2.out]; rfl)
    go_wp2
    go_ret
    exact ⟨by rw [HZ.out]; rfl, HB4.out⟩

/-! ### Multi -/
theorem mulV_app (g : Sg) (a b : List T) : mulV g a b = if errF g (a ++ b) = 0 then .tuple #[.int .i64 (rowsT g a b), .int .i64 0] else .tuple #[.int .i64 0, .int .i64 (errF g (a ++ b))] := by
  unfold mulV
  rw [errF_app]
  by_cases h : errF g a = 0
  · rw [if_pos h, if_pos h]
  · rw [if_neg h, if_neg h, if_neg h]
theorem errF_drop {g : Sg} {ts : List T} {k : Nat} {t : T} (h : ts[k]? = some t) : errF g (ts.drop k) = if errT g t ≠ 0 then errT g t else errF g (ts.drop (k + 1)) := by
  obtain ⟨hkl, hke⟩ := List.getElem?_eq_some_iff.1 h
  rw [List.drop_eq_getElem_cons hkl, hke, errF_cons]
def MuI (g : Sg) (ts : List T) (w1 : World) (i : Value) (wr : World) : Prop := ∃ k : Nat, k ≤ ts.length ∧ i = .int .i64 k ∧ errF g ts = errF g (ts.drop k) ∧ Below w1.heap.size w1 wr

set_option maxRecDepth 100000 in
set_option maxHeartbeats 4000000 in
theorem rMulti_any (g : Sg) (A B : List T) (hla : A.length ≤ 1000000) (hlb : B.length ≤ 1000000) (hsa : ∀ t ∈ A, t.size ≤ 1000000000000) (hsb : ∀ t ∈ B, t.size ≤ 1000000000000) (n₀ : Nat) (ga : Option Addr) (gc : Nat) (pa : Option Addr) (ca : Nat) (pb : Option Addr) (cb : Nat) (w : World) (hn : n₀ ≤ w.heap.size) (hG : IsSg n₀ w g ga gc) (hA : IsArgs n₀ w A pa ca) (hB : IsArgs n₀ w B pb cb) (hna : pa = none → ca = 0) (hnb : pb = none → cb = 0) :
    Calls Try.prog 14 #[.slice ga g.length gc, .slice pa A.length ca, .slice pb B.length cb] w fun e w' => e = .returned (mulV g A B) ∧ Below w.heap.size w w' := by
  have HA := Lib.hid (hA.mono hn)
  have HB := Lib.hid (hB.mono hn)
  have HG := Lib.hid (hG.mono hn)
  have HSZ := Lib.hid (show ∀ t ∈ A ++ B, t.size ≤ 1000000000000 from fun t ht => (List.mem_append.1 ht).elim (hsa t) (hsb t))
  have HMV := Lib.hid (mulV_app g A B)
  have CR := Lib.hid (fun (hz : errF g (A ++ B) = 0) (W : World) (hW : Below w.heap.size w W) => rRows_any g A B (fun t ht => errF_mem hz t (List.mem_append_left _ ht)) (fun t ht => errF_mem hz t (List.mem_append_right _ ht)) hla hlb hsa hsb w.heap.size ga gc pa ca pb cb W hW.size (HG.out.below hW) (HA.out.below hW) (HB.out.below hW))
  clear hA hB hG hsa hsb
  go_enter Try.func14, Try.ntmps14
  go_wp2_with (at_builtin; refine stopHere ?_)
  refine Lib.hid ?_
  refine wpList_append_ts rfl _ _ rfl w.heap.size _ [] rfl (OA.nil _ _) (Nat.le_refl _) A _ _ rfl (Src.of_args HA.out hna) (by simp; omega) ?_
  intro v1 w1 hO1 hg1 hv1
  have hb1 : Below w.heap.size w w1 := (Below.refl w.heap.size w).grown hg1 (Nat.le_refl _) (fun k e => ((OA.nil w.heap.size w).block e).1)
  have HB1 := Lib.hid hb1
  have HO1 := Lib.hid hO1
  clear hO1 hg1 hv1 hb1
  go_wp2_with (at_builtin; refine stopHere ?_)
  refine Lib.hid ?_
  refine wpList_append_ts rfl _ _ rfl w.heap.size _ ([] ++ A) rfl HO1.out HB1.out.size B _ _ rfl (Src.of_args (HB.out.below HB1.out) hnb) (by simp; omega) ?_
  intro v2 w2 hO2 hg2 hv2
  have HB2 := Lib.hid (HB1.out.grown hg2 HB1.out.size (fun k e => (HO1.out.block e).1))
  obtain ⟨am, cm, rfl, hM⟩ := hO2.args HB2.out.size
  rw [List.nil_append] at hM ⊢
  have HM := Lib.hid hM
  have hml1 := hM.1
  have hml2 := hM.2.1
  unfold maxLen at hml2
  clear hO2 hg2 hv2 HO1 HB1 hM
  obtain ⟨L, hL⟩ : ∃ L, A ++ B = L := ⟨_, rfl⟩
  simp only [hL] at HM HSZ HMV CR hml1 hml2 ⊢
  clear hL
  go_wp2
  go_loopw [9] (fun i wr => MuI g L w2 i wr) (fun i _ => L.length - (intOf i).toNat)
  case atStart => exact ⟨0, Nat.zero_le _, rfl, by simp, Below.refl _ _⟩
  case round =>
    obtain ⟨k, hk, rfl, hE, hb⟩ := hrel
    have HE := Lib.hid hE
    have HBo := Lib.hid hb
    have HBw := Lib.hid (HB2.out.trans (hb.mono HB2.out.size))
    have hnz := hb.size
    clear hE hb
    by_cases hlt : k < L.length
    · obtain ⟨b1, o1, u, a1, c1, rfl, hb1, hu, huw, e0, e1, huA⟩ := (HM.out.below HBo.out).elem (i := k) hlt
      have hk0 : (0 : Int) ≤ (k : Int) := Int.natCast_nonneg _
      have hk1 : (k : Int) < (L.length : Int) := by omega
      have HST := Lib.hid (errF_drop (g := g) hu)
      have CT := Lib.hid (r7Term_any g u (HSZ.out u (List.mem_of_getElem? hu)) w2.heap.size ga gc a1 c1 wr hnz ((HG.out.below HBw.out).mono HB2.out.size) huA)
      clear hu huw huA
      have hb1w : b1 < wr.heap.size := by omega
      go_wp2_with fail
      refine CT.out.mono ?_
      rintro e w3 ⟨rfl, hb3⟩
      have HB3 := Lib.hid (HBo.out.trans (hb3.mono hnz))
      have HBw3 := Lib.hid (HBw.out.trans (hb3.mono (Nat.le_trans HB2.out.size hnz)))
      clear hb3
      obtain ⟨q, hq⟩ : ∃ q, errT g u = q := ⟨_, rfl⟩
      rw [hq] at HST ⊢
      clear hq
      by_cases h0 : q = 0
      · subst h0
        have HN := Lib.hid (show errF g L = errF g (L.drop (k + 1)) from by rw [HE.out, HST.out]; rfl)
        go_wp2
        go_roundw
        case rel => exact ⟨k + 1, by omega, by go_num, HN.out, HB3.out⟩
        case measure => simp [intOf]; omega
      · have HN := Lib.hid (show mulV g A B = .tuple #[.int .i64 0, .int .i64 q] from by
          have h : errF g L = q := by rw [HE.out, HST.out, if_pos h0]
          rw [HMV.out, h, if_neg h0])
        have h3 : (q != 0) = true := by simpa using h0
        go_wp2
        refine bodyPost_ret (v := .tuple #[.int .i64 0, .int .i64 q]) (by simp [results, Try.results14, go_sem]) rfl ?_
        exact ⟨by rw [HN.out], HBw3.out⟩
    · obtain rfl : k = L.length := by omega
      have hz : errF g L = 0 := by rw [HE.out, List.drop_of_length_le (Nat.le_refl _)]; rfl
      have HN := Lib.hid (show mulV g A B = .tuple #[.int .i64 (rowsT g A B), .int .i64 0] from by rw [HMV.out, hz]; rfl)
      have C := Lib.hid (CR.out hz wr HBw.out)
      clear hz
      generalize rowsT g A B = r at *
      go_wp2_with fail
      refine C.out.mono ?_
      rintro e w3 ⟨rfl, hb3⟩
      have HBw3 := Lib.hid (HBw.out.trans (hb3.mono HBw.out.size))
      clear hb3
      go_wp2
      refine bodyPost_ret (v := .tuple #[.int .i64 r, .int .i64 0]) (by simp [results, Try.results14, go_sem]) rfl ?_
      exact ⟨by rw [HN.out], HBw3.out⟩

end Go.Proofs.Ytbfanbaijombaaa

/- The walk of KboRows. -/
namespace Go.Proofs.Ytbfanbaijombaaa
set_option linter.unusedVariables false
set_option linter.unusedSimpArgs false
open Go.RowKit

theorem len_sizes : (ts : List T) → ts.length ≤ T.sizes ts
  | [] => Nat.zero_le _
  | t :: ts => by
    have := len_sizes ts
    have := T.size_pos t
    simp only [T.sizes, List.length_cons]
    omega

set_option maxRecDepth 100000 in
set_option maxHeartbeats 8000000 in
theorem kboRows_walk (g : Sg) (A B : List T) (ga : Option Addr) (gc : Nat) (pa : Option Addr) (ca : Nat) (pb : Option Addr) (cb : Nat) (w : World)
    (hG : IsSg w.heap.size w g ga gc) (hA : IsArgs w.heap.size w A pa ca) (hB : IsArgs w.heap.size w B pb cb) (hna : pa = none → ca = 0) (hnb : pb = none → cb = 0) :
    Calls Try.prog 4 #[.slice ga g.length gc, .slice pa A.length ca, .slice pb B.length cb] w fun e w' => e = .returned (.bool true) ∧ Below w.heap.size w w' := by
  have hla := hA.1
  have hla2 := hA.2.1
  have hlb := hB.1
  have hlb2 := hB.2.1
  unfold maxLen at hla2 hlb2
  have CA := Lib.hid awake8_any
  have d0 := ((((Later.below (Below.refl _ w)).and (later_sg hG)).and (later_args hB)).and (later_args hA))
  have D := Lib.hid d0
  clear hG hA hB d0
  go_enter Try.func4, Try.ntmps4
  go_wp2_with fail
  refine (few8_any g A w.heap.size ga gc pa ca w (Nat.le_refl _) D.out.now.2.2.1 D.out.now.1).mono ?_
  rintro e w2 ⟨f1, rfl, hfa, hb⟩
  have D2 := Lib.hid (D.out.mv hb)
  clear hb D
  cases f1
  case false =>
    have HQ := Lib.hid D2.out.now.2.2.2
    clear D2 hfa
    go_wp2
    go_ret
    exact ⟨rfl, HQ.out⟩
  have HFA := Lib.hid (hfa rfl)
  clear hfa
  go_wp2_with fail
  refine (few8_any g B w2.heap.size ga gc pb cb w2 (Nat.le_refl _) D2.out.now.2.2.1 D2.out.now.2.1).mono ?_
  rintro e w3 ⟨f1, rfl, hfb, hb⟩
  have D3 := Lib.hid (D2.out.mv hb)
  clear hb D2
  cases f1
  case false =>
    have HQ := Lib.hid D3.out.now.2.2.2
    clear D3 hfb
    go_wp2
    go_ret
    exact ⟨rfl, HQ.out⟩
  have HFB := Lib.hid (hfb rfl)
  clear hfb
  have hA5 : A.length ≤ 500 := Nat.le_trans (len_sizes A) HFA.out
  have hB5 : B.length ≤ 500 := Nat.le_trans (len_sizes B) HFB.out
  by_cases q20 : (20 : Int) < (A.length : Int) + (B.length : Int)
  · have HQ := Lib.hid D3.out.now.2.2.2
    clear D3
    go_wp2
    go_ret
    exact ⟨rfl, HQ.out⟩
  have HSA := Lib.hid (show ∀ s ∈ A, s.size ≤ 1000000000000 from fun s hs => by have := mem_sizes hs; have := HFA.out; omega)
  have HSB := Lib.hid (show ∀ s ∈ B, s.size ≤ 1000000000000 from fun s hs => by have := mem_sizes hs; have := HFB.out; omega)
  go_wp2_with fail
  refine (multi_any g A B (by omega) (by omega) HSA.out HSB.out w3.heap.size ga gc pa ca pb cb w3 (Nat.le_refl _) D3.out.now.2.2.1 D3.out.now.1 D3.out.now.2.1).mono ?_
  rw [mulV_eq]
  rintro e w4 ⟨rfl, hb⟩
  have D4 := Lib.hid (D3.out.mv hb)
  clear hb D3
  go_wp2_with fail
  refine (rMulti_any g A B (by omega) (by omega) HSA.out HSB.out w4.heap.size ga gc pa ca pb cb w4 (Nat.le_refl _) D4.out.now.2.2.1 D4.out.now.1 D4.out.now.2.1 hna hnb).mono ?_
  rw [mulV_eq]
  rintro e w5 ⟨rfl, hb⟩
  have D5 := Lib.hid (D4.out.mv hb)
  clear hb D4
  generalize muR g A B = x
  generalize muE g A B = e1
  go_wp2_with fail
  refine (CA.out _).mono ?_
  rintro e w6 ⟨rfl, hb⟩
  have HQ := Lib.hid (D5.out _ hb).2.2.2
  clear hb D5
  go_wp2
  go_ret
  exact ⟨by simp, HQ.out⟩

end Go.Proofs.Ytbfanbaijombaaa
