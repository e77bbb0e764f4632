/- QDe: joined of R8, R8b. -/
import Derived.Test.YtleohdddaadbeaaGreatQDc
import Derived.Test.YtleohdddaadbeaaGreatQDd
import Derived.Test.YtleohdddaadbeaaGreatQBo
import Derived.Test.YtleohdddaadbeaaGreatQBm
import Derived.Deep.RegionHeld3
import Derived.Deep.CutRange
import Derived.Test.YtleohdddaadbeaaGreatRef
/- Contracts of the document's answer for terms compared (layer 8). -/
namespace Go.Proofs.YtleohdddaadbeaaGreat
set_option linter.unusedVariables false
set_option linter.unusedSimpArgs false
open Go.RowKit

theorem rv_isVars (t : T) : IsVars t.rv t := by rw [T.rv_eq]; exact isVars_vars t
theorem rv_le {t : T} (hb : bad (T.subs 1 t) = false) : ∀ v ∈ t.rv, 0 ≤ v ∧ v ≤ 255 := fun v hv => by
  obtain ⟨x, hx, h0, rfl⟩ := (rv_isVars t v).1 hv
  have := vars_low hb x hx h0
  omega
def OftI (a b : T) (w1 : World) (i : Value) (wr : World) : Prop := ∃ k : Nat, k ≤ b.rv.length ∧ i = .int .i64 k ∧ (∀ (j : Nat) (v : Int), j < k → b.rv[j]? = some v → b.hds.count (-1 - v) ≤ a.hds.count (-1 - v)) ∧ Below w1.heap.size w1 wr
theorem oftB_true {a b : T} (h : ∀ (j : Nat) (v : Int), j < b.rv.length → b.rv[j]? = some v → b.hds.count (-1 - v) ≤ a.hds.count (-1 - v)) : oftB a b = true := by
  rw [oft_iff, oft_vars (rv_isVars b)]
  intro v hv
  obtain ⟨j, hj⟩ := List.getElem?_of_mem hv
  exact h j v (List.getElem?_eq_some_iff.1 hj).1 hj
theorem oftB_false {a b : T} {j : Nat} {v : Int} (hv : b.rv[j]? = some v) (h : a.hds.count (-1 - v) < b.hds.count (-1 - v)) : oftB a b = false := by
  cases e : oftB a b with
  | false => rfl
  | true =>
    have := (oft_vars (rv_isVars b)).1 (oft_iff.1 e) v (List.mem_of_getElem? hv)
    omega

set_option maxRecDepth 100000 in
set_option maxHeartbeats 4000000 in
theorem often_any (a b : T) (hza : a.size ≤ 1000000000) (hzb : b.size ≤ 1000000000) (hbb : bad (T.subs 1 b) = false) (n₀ : Nat) (pa : Option Addr) (ca : Nat) (pb : Option Addr) (cb : Nat) (w : World) (hn : n₀ ≤ w.heap.size) (hbw : (Lit.int .i64 b.head).wf = true) (hA : IsArgs n₀ w a.args pa ca) (hB : IsArgs n₀ w b.args pb cb) :
    Calls Tryz.prog 42 #[tm a.head pa a.args.length ca, tm b.head pb b.args.length cb] w fun e w' => e = .returned (.bool (oftB a b)) ∧ Below w.heap.size w w' := by
  have HRV := Lib.hid (rv_le hbb)
  have HBW := Lib.hid hbw
  have hrl : b.rv.length ≤ 1000000000 := by have := T.rv_length b; omega
  have d0 := (((((Later.below (Below.refl _ w)).and (later_args (hB.mono hn))).and (later_args (hA.mono hn))).push (Below.refl _ _) a.head pa a.args.length ca).push (Below.refl _ _) b.head pb b.args.length cb)
  simp only [heap_alloc_size] at d0
  have D := Lib.hid d0
  clear hA hB d0 hbw
  have hcnt : ∀ (t : T) (v : Int), t.size ≤ 1000000000 → t.hds.count (-1 - v) ≤ 1000000000 := fun t v ht => Nat.le_trans List.count_le_length (by rw [T.hds_length]; exact ht)
  have HCA := Lib.hid (fun v => hcnt a v hza)
  have HCB := Lib.hid (fun v => hcnt b v hzb)
  clear hcnt
  go_enter Tryz.func42, Tryz.ntmps42
  go_wp2_with fail
  generalize (w.alloc (tmCells a.head pa a.args.length ca)).alloc (tmCells b.head pb b.args.length cb) = w1 at D ⊢
  generalize hb0 : w.heap.size = b0 at D ⊢
  have HB0 := Lib.hid hb0
  clear hb0
  refine (refVars_any b.size b (Nat.le_refl _) (by omega) w1.heap.size pb cb w1 (Nat.le_refl _) HBW.out D.out.now.2.2.2.1).mono ?_
  rintro e w2 ⟨av, cv, rfl, hI, _, hb⟩
  have hvl : b.rv.length ≤ cv ∧ cv ≤ maxLen := ⟨hI.1, hI.2.1⟩
  unfold maxLen at hvl
  obtain ⟨hvl1, hvl2⟩ := hvl
  have D2 := Lib.hid ((D.out.mv hb).and (later_is hI))
  clear hb hI D
  go_wp2
  go_loopw [6] (fun i wr => OftI a b w2 i wr) (fun i _ => b.rv.length - (intOf i).toNat)
  case atStart => exact ⟨0, Nat.zero_le _, rfl, fun j v hj => by omega, Below.refl _ _⟩
  case round =>
    obtain ⟨k, hk, rfl, hpre, hB⟩ := hrel
    have HPRE := Lib.hid hpre
    have D3 := Lib.hid (D2.out.mv hB)
    have HB := Lib.hid hB
    clear hpre hB
    by_cases hlt : k < b.rv.length
    · obtain ⟨bv, ov, v, rfl, hbn, hv, hcv⟩ := D3.out.now.1.elem (k := k) hlt
      have hk0 : (0 : Int) ≤ (k : Int) := Int.natCast_nonneg _
      have hk1 : (k : Int) < (b.rv.length : Int) := by omega
      obtain ⟨hv0, hv1⟩ := HRV.out v (List.mem_of_getElem? hv)
      have HV := Lib.hid hv
      have hca := HCA.out v
      have hcb := HCB.out v
      clear hv
      have KP := Lib.hid (show ∀ W, Below wr.heap.size wr W → (W.cell? ⟨b0, 0, none⟩ = some (.int .i64 a.head) ∧ W.cell? ⟨b0, 1, none⟩ = some (.slice pa a.args.length ca)) ∧ (W.cell? ⟨b0 + 1, 0, none⟩ = some (.int .i64 b.head) ∧ W.cell? ⟨b0 + 1, 1, none⟩ = some (.slice pb b.args.length cb)) ∧ W.cell? ⟨bv, ov + k, none⟩ = some (.int .i64 v) ∧ Below wr.heap.size wr W from fun W hW => by
        obtain ⟨_, ⟨y0, y1⟩, ⟨x0, x1⟩, _⟩ := D3.out W hW
        exact ⟨⟨x0, x1⟩, ⟨y0, y1⟩, (hW.cell (p := ⟨bv, _, none⟩) hbn).trans hcv, hW⟩)
      obtain ⟨⟨x0, x1⟩, ⟨y0, y1⟩, _⟩ := KP.out wr (Below.refl _ _)
      have CA := Lib.hid (fun (W : World) (hW : Below wr.heap.size wr W) => r7Count_any v hv0 (by omega) a.size a (Nat.le_refl _) (by omega) W.heap.size pa ca W (Nat.le_refl _) (D3.out W hW).2.2.2.1)
      have CB := Lib.hid (fun (W : World) (hW : Below wr.heap.size wr W) => r7Count_any v hv0 (by omega) b.size b (Nat.le_refl _) (by omega) W.heap.size pb cb W (Nat.le_refl _) (D3.out W hW).2.2.2.2.1)
      by_cases hq : a.hds.count (-1 - v) < b.hds.count (-1 - v)
      · have HE := Lib.hid (oftB_false HV.out hq)
        have hq' : ((a.hds.count (-1 - v) : Nat) : Int) < ((b.hds.count (-1 - v) : Nat) : Int) := by omega
        generalize a.hds.count (-1 - v) = na at *
        generalize b.hds.count (-1 - v) = nb at *
        go_wp2_with fail
        refine wp_region_noPanic ?_
        go_region_held3 (fun w' => (w'.cell? ⟨b0, 0, none⟩ = some (.int .i64 a.head) ∧ w'.cell? ⟨b0, 1, none⟩ = some (.slice pa a.args.length ca)) ∧ (w'.cell? ⟨b0 + 1, 0, none⟩ = some (.int .i64 b.head) ∧ w'.cell? ⟨b0 + 1, 1, none⟩ = some (.slice pb b.args.length cb)) ∧ w'.cell? ⟨bv, ov + k, none⟩ = some (.int .i64 v) ∧ Below wr.heap.size wr w')
          (first
            | exact KP.out _ (Below.refl _ _)
            | exact KP.out _ (Below.refl _ _).drew
            | exact KP.out _ hB)
          (first
            | (go_at_call 61; with_reducible refine (CA.out _ (‹_ ∧ _ ∧ _ ∧ Below wr.heap.size wr _›.2.2.2)).mono ?_; rintro e u1 ⟨rfl, hu⟩; have hB := bl_call (‹_ ∧ _ ∧ _ ∧ Below wr.heap.size wr _›.2.2.2) hu)
            | (go_at_call 61; with_reducible refine (CB.out _ (‹_ ∧ _ ∧ _ ∧ Below wr.heap.size wr _›.2.2.2)).mono ?_; rintro e u2 ⟨rfl, hu2⟩; have hB := bl_call (‹_ ∧ _ ∧ _ ∧ Below wr.heap.size wr _›.2.2.2) hu2; have hfin := hB))
        all_goals
          refine NoPanic.normal ?_
          have HQ := Lib.hid (D3.out _ hfin).2.2.2.2.2
          go_wp2
          go_ret
          exact ⟨by rw [HE.out]; rfl, by rw [HB0.out]; exact HQ.out⟩
      · have HLE := Lib.hid (show b.hds.count (-1 - v) ≤ a.hds.count (-1 - v) from by omega)
        have hq' : ¬ ((a.hds.count (-1 - v) : Nat) : Int) < ((b.hds.count (-1 - v) : Nat) : Int) := by omega
        have HST := Lib.hid (show ∀ (j : Nat) (z : Int), j < k + 1 → b.rv[j]? = some z → b.hds.count (-1 - z) ≤ a.hds.count (-1 - z) from fun j z hj hz => by
          by_cases e : j = k
          · subst e; rw [HV.out] at hz; obtain rfl := Option.some.inj hz; exact HLE.out
          · exact HPRE.out j z (by omega) hz)
        generalize a.hds.count (-1 - v) = na at *
        generalize b.hds.count (-1 - v) = nb at *
        go_wp2_with fail
        refine wp_region_noPanic ?_
        go_region_held3 (fun w' => (w'.cell? ⟨b0, 0, none⟩ = some (.int .i64 a.head) ∧ w'.cell? ⟨b0, 1, none⟩ = some (.slice pa a.args.length ca)) ∧ (w'.cell? ⟨b0 + 1, 0, none⟩ = some (.int .i64 b.head) ∧ w'.cell? ⟨b0 + 1, 1, none⟩ = some (.slice pb b.args.length cb)) ∧ w'.cell? ⟨bv, ov + k, none⟩ = some (.int .i64 v) ∧ Below wr.heap.size wr w')
          (first
            | exact KP.out _ (Below.refl _ _)
            | exact KP.out _ (Below.refl _ _).drew
            | exact KP.out _ hB)
          (first
            | (go_at_call 61; with_reducible refine (CA.out _ (‹_ ∧ _ ∧ _ ∧ Below wr.heap.size wr _›.2.2.2)).mono ?_; rintro e u1 ⟨rfl, hu⟩; have hB := bl_call (‹_ ∧ _ ∧ _ ∧ Below wr.heap.size wr _›.2.2.2) hu)
            | (go_at_call 61; with_reducible refine (CB.out _ (‹_ ∧ _ ∧ _ ∧ Below wr.heap.size wr _›.2.2.2)).mono ?_; rintro e u2 ⟨rfl, hu2⟩; have hB := bl_call (‹_ ∧ _ ∧ _ ∧ Below wr.heap.size wr _›.2.2.2) hu2; have hfin := hB))
        all_goals
          refine NoPanic.normal ?_
          have HFIN := Lib.hid (HB.out.trans (hfin.mono HB.out.size))
          go_wp2
          go_roundw
          case rel => exact ⟨k + 1, by omega, by go_num, HST.out, HFIN.out⟩
          case measure => simp [intOf]; omega
    · obtain rfl : k = b.rv.length := by omega
      have HE := Lib.hid (oftB_true HPRE.out)
      have HQ := Lib.hid D3.out.now.2.2.2.2.2
      go_wp2
      go_ret
      exact ⟨by rw [HE.out]; rfl, by rw [HB0.out]; exact HQ.out⟩

end Go.Proofs.YtleohdddaadbeaaGreat

/- Contracts of the document's answer for two terms compared (layer 8): Greater, Stand, Compare. -/
namespace Go.Proofs.YtleohdddaadbeaaGreat
set_option linter.unusedVariables false
set_option linter.unusedSimpArgs false
open Go.RowKit

theorem gtK_weight {g : Sg} {a b : T} (ho : oftB a b = true) (hw : wtT g a ≠ wtT g b) : gtK g a b = decide (wtT g b < wtT g a) := by
  rw [gtK_eq, ho, if_neg hw]; rfl
theorem gtK_often {g : Sg} {a b : T} (ho : oftB a b = false) : gtK g a b = false := by rw [gtK_eq, ho]; rfl
theorem gtK_neg {g : Sg} {a b : T} (hw : wtT g a = wtT g b) (hn : a.head < 0 ∨ b.head < 0) : gtK g a b = false := by
  rw [gtK_eq, if_pos hw]
  rcases hn with h | h <;> simp [h]
theorem gtK_head {g : Sg} {a b : T} (ho : oftB a b = true) (hw : wtT g a = wtT g b) (h1 : ¬ a.head < 0) (h2 : ¬ b.head < 0) (hh : a.head ≠ b.head) : gtK g a b = decide (b.head < a.head) := by
  rw [gtK_eq, ho, if_pos hw, if_neg hh]; simp [h1, h2]
theorem gtK_args {g : Sg} {a b : T} (ho : oftB a b = true) (hw : wtT g a = wtT g b) (h1 : ¬ a.head < 0) (h2 : ¬ b.head < 0) (hh : a.head = b.head) : gtK g a b = gtL g a.args b.args := by
  rw [gtK_eq, ho, if_pos hw, if_pos hh]; simp [h1, h2]
theorem weightV_ok {g : Sg} (hr : rightG g = true) {t : T} (h : OkT g t) : weightV g t = .tuple #[.int .i64 (wtT g t), .int .i64 0] := by
  unfold weightV; rw [if_pos ((okT_iff hr).2 h)]
def GrI (a b : T) (w1 : World) (i : Value) (wr : World) : Prop := ∃ k : Nat, k ≤ a.args.length ∧ i = .int .i64 k ∧ a.args.take k = b.args.take k ∧ Below w1.heap.size w1 wr
theorem take_snoc8 {a b : List T} {k : Nat} {s : T} (h : a.take k = b.take k) (h1 : a[k]? = some s) (h2 : b[k]? = some s) : a.take (k + 1) = b.take (k + 1) := by
  rw [List.take_add_one, List.take_add_one, h, h1, h2]

set_option maxRecDepth 100000 in
set_option maxHeartbeats 8000000 in
theorem greater_any (g : Sg) (hr : rightG g = true) : ∀ (N : Nat) (a b : T), a.size ≤ N → OkT g a → OkT g b → ∀ (n₀ : Nat) (ga : Option Addr) (gc : Nat) (pa : Option Addr) (ca : Nat) (pb : Option Addr) (cb : Nat) (w : World), n₀ ≤ w.heap.size → IsSg n₀ w g ga gc →
    (Lit.int .i64 a.head).wf = true → (Lit.int .i64 b.head).wf = true → IsArgs n₀ w a.args pa ca → IsArgs n₀ w b.args pb cb →
    Calls Tryz.prog 20 #[.slice ga g.length gc, tm a.head pa a.args.length ca, tm b.head pb b.args.length cb] w fun e w' => e = .returned (.bool (gtK g a b)) ∧ Below w.heap.size w w' := by
  intro N
  induction N with
  | zero => intro a b ha; have := T.size_pos a; omega
  | succ N ih =>
    intro a b ha hoa hob n₀ ga gc pa ca pb cb w hn hG haw hbw hA hB
    have IH := Lib.hid ih
    clear ih
    have HS := Lib.hid (show ∀ s ∈ a.args, s.size ≤ N from fun s hs => by
      obtain ⟨i, hi⟩ := List.getElem?_of_mem hs
      have h1 := T.size_lt_of_mem hi
      have h2 := T.size_eq a
      omega)
    have HOA := Lib.hid hoa
    have HOB := Lib.hid hob
    have HAW := Lib.hid haw
    have HBW := Lib.hid hbw
    have hca := check_ok hoa.1
    have hcb := check_ok hob.1
    have hsa := hca.1
    have hsb := hcb.1
    have HBB := Lib.hid hcb.2.2
    have hlc : a.args.length ≤ ca ∧ ca ≤ maxLen := ⟨hA.1, hA.2.1⟩
    have hld : b.args.length ≤ cb ∧ cb ≤ maxLen := ⟨hB.1, hB.2.1⟩
    unfold maxLen at hlc hld
    obtain ⟨hl1, hl2⟩ := hlc
    obtain ⟨hl3, hl4⟩ := hld
    have d0 := ((((((Later.below (Below.refl _ w)).and (later_sg (hG.mono hn))).and (later_args (hB.mono hn))).and (later_args (hA.mono hn))).push (Below.refl _ _) a.head pa a.args.length ca).push (Below.refl _ _) b.head pb b.args.length cb)
    simp only [heap_alloc_size] at d0
    have D := Lib.hid d0
    have hWA := weightV_ok hr hoa
    have hWB := weightV_ok hr hob
    clear hA hB hG d0 haw hbw hoa hob hca hcb
    go_enter Tryz.func20, Tryz.ntmps20
    go_wp2_with fail
    generalize (w.alloc (tmCells a.head pa a.args.length ca)).alloc (tmCells b.head pb b.args.length cb) = w1 at D ⊢
    generalize hb0 : w.heap.size = b0 at D ⊢
    have HB0 := Lib.hid hb0
    clear hb0
    refine (often_any a b (by omega) (by omega) HBB.out w1.heap.size pa ca pb cb w1 (Nat.le_refl _) HBW.out D.out.now.2.2.1 D.out.now.2.2.2.1).mono ?_
    rintro e w2 ⟨rfl, hb⟩
    have D2 := Lib.hid (D.out.mv hb)
    clear hb D
    cases ho : oftB a b with
    | false =>
      have HE := Lib.hid (gtK_often (g := g) ho)
      have HQ := Lib.hid D2.out.now.2.2.2.2.2
      clear D2 ho hWA hWB
      go_wp2
      go_ret
      exact ⟨by rw [HE.out]; rfl, by rw [HB0.out]; exact HQ.out⟩
    | true =>
    have HO := Lib.hid ho
    obtain ⟨⟨y0, y1⟩, ⟨x0, x1⟩, _⟩ := D2.out.now
    go_wp2_with fail
    clear y0 y1 x0 x1
    refine (r7Weight_any g a (by omega) w2.heap.size ga gc pa ca w2 (Nat.le_refl _) D2.out.now.2.2.2.2.1 D2.out.now.2.2.1).mono ?_
    rw [hWA]
    rintro e w3 ⟨rfl, hb⟩
    have D3 := Lib.hid (D2.out.mv hb)
    clear hb D2 ho
    obtain ⟨⟨y0, y1⟩, ⟨x0, x1⟩, _⟩ := D3.out.now
    go_wp2_with fail
    clear y0 y1 x0 x1
    refine (r7Weight_any g b (by omega) w3.heap.size ga gc pb cb w3 (Nat.le_refl _) D3.out.now.2.2.2.2.1 D3.out.now.2.2.2.1).mono ?_
    rw [hWB]
    rintro e w4 ⟨rfl, hb⟩
    have D4 := Lib.hid (D3.out.mv hb)
    clear hb D3 hWA hWB
    obtain ⟨⟨y0, y1⟩, ⟨x0, x1⟩, _⟩ := D4.out.now
    by_cases hw : wtT g a = wtT g b
    case neg =>
      have HE := Lib.hid (gtK_weight HO.out hw)
      have HQ := Lib.hid D4.out.now.2.2.2.2.2
      generalize wtT g a = za at *
      generalize wtT g b = zb at *
      have hne : (za != zb) = true := by simpa using hw
      clear D4
      go_wp2
      go_ret
      exact ⟨by rw [HE.out]; first | rfl | simp, by rw [HB0.out]; exact HQ.out⟩
    have HW := Lib.hid hw
    have hbe : (wtT g a != wtT g b) = false := by simpa using hw
    clear hw
    by_cases h1 : a.head < 0
    · have HE := Lib.hid (gtK_neg (b := b) HW.out (.inl h1))
      have HQ := Lib.hid D4.out.now.2.2.2.2.2
      clear D4
      go_wp2
      go_ret
      exact ⟨by rw [HE.out]; rfl, by rw [HB0.out]; exact HQ.out⟩
    by_cases h2 : b.head < 0
    · have HE := Lib.hid (gtK_neg (a := a) HW.out (.inr h2))
      have HQ := Lib.hid D4.out.now.2.2.2.2.2
      clear D4
      go_wp2
      go_ret
      exact ⟨by rw [HE.out]; rfl, by rw [HB0.out]; exact HQ.out⟩
    by_cases hh : a.head = b.head
    case neg =>
      have HE := Lib.hid (gtK_head HO.out HW.out h1 h2 hh)
      have HQ := Lib.hid D4.out.now.2.2.2.2.2
      have hne : (a.head != b.head) = true := by simpa using hh
      clear D4
      go_wp2
      go_ret
      exact ⟨by rw [HE.out]; first | rfl | simp, by rw [HB0.out]; exact HQ.out⟩
    have HE := Lib.hid (gtK_args HO.out HW.out h1 h2 hh)
    have hlen := fits_arity HOA.out.2.1 HOB.out.2.1 (by omega) hh
    have HLEN := Lib.hid hlen
    have hbh : (a.head != b.head) = false := by simpa using hh
    have hsz4 := D4.out.now.2.2.2.2.2
    clear hh
    go_wp2
    clear y0 y1 x0 x1
    go_loopw [11] (fun i wr => GrI a b w4 i wr) (fun i _ => a.args.length - (intOf i).toNat)
    case atStart => exact ⟨0, Nat.zero_le _, rfl, by simp, Below.refl _ _⟩
    case round =>
      obtain ⟨k, hk, rfl, hpre, hBw⟩ := hrel
      have HPRE := Lib.hid hpre
      have HBW4 := Lib.hid hBw
      have D5 := Lib.hid (D4.out.mv hBw)
      clear hpre hBw
      obtain ⟨⟨y0, y1⟩, ⟨x0, x1⟩, hAr, hBr, _⟩ := D5.out.now
      by_cases hlt : k < a.args.length
      · obtain ⟨b1, o1, s, a1, c1, hp1, hbn1, hs, hswf, e0, e1, hA1⟩ := hAr.elem (i := k) hlt
        obtain ⟨b2, o2, t, a2, c2, hp2, hbn2, ht, htwf, f0, f1, hB1⟩ := hBr.elem (i := k) (by omega)
        subst hp1 hp2
        have hk0 : (0 : Int) ≤ (k : Int) := Int.natCast_nonneg _
        have hk1 : (k : Int) < (a.args.length : Int) := by omega
        have hk2 : (k : Int) < (b.args.length : Int) := by omega
        have HSA := Lib.hid hs
        have HSB := Lib.hid ht
        have hos := HOA.out.arg (List.mem_of_getElem? hs)
        have hot := HOB.out.arg (List.mem_of_getElem? ht)
        have hss := (check_ok hos.1).1
        have hst := (check_ok hot.1).1
        have KP := Lib.hid (show ∀ W, Below wr.heap.size wr W → (W.cell? ⟨b0, 0, none⟩ = some (.int .i64 a.head) ∧ W.cell? ⟨b0, 1, none⟩ = some (.slice (some ⟨b1, o1, none⟩) a.args.length ca)) ∧ (W.cell? ⟨b0 + 1, 0, none⟩ = some (.int .i64 b.head) ∧ W.cell? ⟨b0 + 1, 1, none⟩ = some (.slice (some ⟨b2, o2, none⟩) b.args.length cb)) ∧ (W.cell? ⟨b1, o1 + k * 2, none⟩ = some (.int .i64 s.head) ∧ W.cell? ⟨b1, o1 + k * 2 + 1, none⟩ = some (.slice a1 s.args.length c1)) ∧ (W.cell? ⟨b2, o2 + k * 2, none⟩ = some (.int .i64 t.head) ∧ W.cell? ⟨b2, o2 + k * 2 + 1, none⟩ = some (.slice a2 t.args.length c2)) ∧ Below wr.heap.size wr W from fun W hW => by
          obtain ⟨⟨y0, y1⟩, ⟨x0, x1⟩, _⟩ := D5.out W hW
          exact ⟨⟨x0, x1⟩, ⟨y0, y1⟩, ⟨(hW.cell (p := ⟨b1, _, none⟩) hbn1).trans e0, (hW.cell (p := ⟨b1, _, none⟩) hbn1).trans e1⟩, ⟨(hW.cell (p := ⟨b2, _, none⟩) hbn2).trans f0, (hW.cell (p := ⟨b2, _, none⟩) hbn2).trans f1⟩, hW⟩)
        have CS := Lib.hid (fun (W : World) (hW : Below wr.heap.size wr W) => refSame_any s t (by omega) (by omega) wr.heap.size a1 c1 a2 c2 W hW.size (hA1.below hW) (hB1.below hW))
        have CG := Lib.hid (fun (W : World) (hW : Below wr.heap.size wr W) => IH.out s t (HS.out s (List.mem_of_getElem? hs)) hos hot W.heap.size ga gc a1 c1 a2 c2 W (Nat.le_refl _) (D5.out W hW).2.2.2.2.1 hswf htwf ((hA1.below hW).mono hW.size) ((hB1.below hW).mono hW.size))
        clear hs ht hswf htwf hA1 hB1 hAr hBr hos hot
        by_cases hst2 : s = t
        · have HST := Lib.hid (take_snoc8 HPRE.out HSA.out (by rw [HSB.out, hst2]))
          have hcm : decide (T.cmp s t = 0) = true := decide_eq_true (T.cmp_zero.2 hst2)
          rw [hcm] at CS
          clear CG hcm hst2
          go_wp2_with fail
          refine wp_region_noPanic ?_
          go_region_held3 (fun w' => (w'.cell? ⟨b0, 0, none⟩ = some (.int .i64 a.head) ∧ w'.cell? ⟨b0, 1, none⟩ = some (.slice (some ⟨b1, o1, none⟩) a.args.length ca)) ∧ (w'.cell? ⟨b0 + 1, 0, none⟩ = some (.int .i64 b.head) ∧ w'.cell? ⟨b0 + 1, 1, none⟩ = some (.slice (some ⟨b2, o2, none⟩) b.args.length cb)) ∧ (w'.cell? ⟨b1, o1 + k * 2, none⟩ = some (.int .i64 s.head) ∧ w'.cell? ⟨b1, o1 + k * 2 + 1, none⟩ = some (.slice a1 s.args.length c1)) ∧ (w'.cell? ⟨b2, o2 + k * 2, none⟩ = some (.int .i64 t.head) ∧ w'.cell? ⟨b2, o2 + k * 2 + 1, none⟩ = some (.slice a2 t.args.length c2)) ∧ Below wr.heap.size wr w')
                (first
                  | exact KP.out _ (Below.refl _ _)
                  | exact KP.out _ (Below.refl _ _).drew
                  | exact KP.out _ hB)
                (first
                  | (go_at_call 27; with_reducible refine (CS.out _ (‹_ ∧ _ ∧ _ ∧ _ ∧ Below wr.heap.size wr _›.2.2.2.2)).mono ?_; rintro e u1 ⟨rfl, hu⟩; have hB := bl_call (‹_ ∧ _ ∧ _ ∧ _ ∧ Below wr.heap.size wr _›.2.2.2.2) hu; have hfin := hB))
          all_goals
            refine NoPanic.normal ?_
            have HFIN := Lib.hid (HBW4.out.trans (hfin.mono HBW4.out.size))
            go_wp2
            go_roundw
            case rel => exact ⟨k + 1, by omega, by go_num, HST.out, HFIN.out⟩
            case measure => simp [intOf]; omega
        · have HR := Lib.hid (show gtK g a b = gtK g s t from by rw [HE.out]; exact gtL_at HPRE.out HLEN.out HSA.out HSB.out hst2)
          have hcm : decide (T.cmp s t = 0) = false := decide_eq_false (fun e => hst2 (T.cmp_zero.1 e))
          rw [hcm] at CS
          clear hcm
          go_wp2_with fail
          refine wp_region_noPanic ?_
          go_region_held3 (fun w' => (w'.cell? ⟨b0, 0, none⟩ = some (.int .i64 a.head) ∧ w'.cell? ⟨b0, 1, none⟩ = some (.slice (some ⟨b1, o1, none⟩) a.args.length ca)) ∧ (w'.cell? ⟨b0 + 1, 0, none⟩ = some (.int .i64 b.head) ∧ w'.cell? ⟨b0 + 1, 1, none⟩ = some (.slice (some ⟨b2, o2, none⟩) b.args.length cb)) ∧ (w'.cell? ⟨b1, o1 + k * 2, none⟩ = some (.int .i64 s.head) ∧ w'.cell? ⟨b1, o1 + k * 2 + 1, none⟩ = some (.slice a1 s.args.length c1)) ∧ (w'.cell? ⟨b2, o2 + k * 2, none⟩ = some (.int .i64 t.head) ∧ w'.cell? ⟨b2, o2 + k * 2 + 1, none⟩ = some (.slice a2 t.args.length c2)) ∧ Below wr.heap.size wr w')
                (first
                  | exact KP.out _ (Below.refl _ _)
                  | exact KP.out _ (Below.refl _ _).drew
                  | exact KP.out _ hB)
                (first
                  | (go_at_call 27; with_reducible refine (CS.out _ (‹_ ∧ _ ∧ _ ∧ _ ∧ Below wr.heap.size wr _›.2.2.2.2)).mono ?_; rintro e u1 ⟨rfl, hu⟩; have hB := bl_call (‹_ ∧ _ ∧ _ ∧ _ ∧ Below wr.heap.size wr _›.2.2.2.2) hu; have hfin := hB))
          all_goals
            refine NoPanic.normal ?_
            obtain ⟨⟨p0, p1⟩, ⟨p2, p3⟩, ⟨p4, p5⟩, ⟨p6, p7⟩, _⟩ := KP.out _ hfin
            go_wp2_with fail
            refine wp_region_noPanic ?_
            go_region_held3 (fun w' => (w'.cell? ⟨b0, 0, none⟩ = some (.int .i64 a.head) ∧ w'.cell? ⟨b0, 1, none⟩ = some (.slice (some ⟨b1, o1, none⟩) a.args.length ca)) ∧ (w'.cell? ⟨b0 + 1, 0, none⟩ = some (.int .i64 b.head) ∧ w'.cell? ⟨b0 + 1, 1, none⟩ = some (.slice (some ⟨b2, o2, none⟩) b.args.length cb)) ∧ (w'.cell? ⟨b1, o1 + k * 2, none⟩ = some (.int .i64 s.head) ∧ w'.cell? ⟨b1, o1 + k * 2 + 1, none⟩ = some (.slice a1 s.args.length c1)) ∧ (w'.cell? ⟨b2, o2 + k * 2, none⟩ = some (.int .i64 t.head) ∧ w'.cell? ⟨b2, o2 + k * 2 + 1, none⟩ = some (.slice a2 t.args.length c2)) ∧ Below wr.heap.size wr w')
                  (first
                    | exact KP.out _ hfin
                    | exact KP.out _ hfin.drew
                    | exact KP.out _ hB2)
                  (first
                    | (go_at_call 20; with_reducible refine (CG.out _ (‹_ ∧ _ ∧ _ ∧ _ ∧ Below wr.heap.size wr _›.2.2.2.2)).mono ?_; rintro e u2 ⟨rfl, hu2⟩; have hB2 := bl_call (‹_ ∧ _ ∧ _ ∧ _ ∧ Below wr.heap.size wr _›.2.2.2.2) hu2; have hfin2 := hB2))
            all_goals
              refine NoPanic.normal ?_
              have HQ := Lib.hid (D5.out _ hfin2).2.2.2.2.2
              go_wp2
              go_ret
              exact ⟨by rw [HR.out]; rfl, by rw [HB0.out]; exact HQ.out⟩
      · obtain rfl : k = a.args.length := by omega
        have HR := Lib.hid (show gtK g a b = false from by
          rw [HE.out]
          exact gtL_end HPRE.out HLEN.out)
        have HQ := Lib.hid D5.out.now.2.2.2.2.2
        clear hAr hBr
        go_wp2
        go_ret
        exact ⟨by rw [HR.out]; rfl, by rw [HB0.out]; exact HQ.out⟩

end Go.Proofs.YtleohdddaadbeaaGreat
