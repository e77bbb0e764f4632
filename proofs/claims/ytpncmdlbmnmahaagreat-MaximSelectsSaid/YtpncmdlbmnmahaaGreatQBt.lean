/- QBt: joined of R8b, Kb8, R8d. -/
import Derived.Test.YtpncmdlbmnmahaaGreatQBs
import Derived.Test.YtpncmdlbmnmahaaGreatQBg
import Derived.Test.YtpncmdlbmnmahaaGreatQBf
import Derived.BigQuiet
import Derived.OwnWalk
/- Contracts of the document's answer for two terms compared (layer 8): Greater, Stand, Compare. -/
namespace Go.Proofs.YtpncmdlbmnmahaaGreat
set_option linter.unusedVariables false
set_option linter.unusedSimpArgs false
open Go.RowKit
theorem gtK_weight {g : Sg} {a b : T} (ho : oftB a b = true) (hw : wtT g a ≠ wtT g b) : gtK g a b = decide (wtT g b < wtT g a) := by
  rw [gtK_eq, ho, if_neg hw]; rfl
theorem gtK_often {g : Sg} {a b : T} (ho : oftB a b = false) : gtK g a b = false := by rw [gtK_eq, ho]; rfl
theorem gtK_neg {g : Sg} {a b : T} (hw : wtT g a = wtT g b) (hn : a.head < 0 ∨ b.head < 0) : gtK g a b = false := by
  rw [gtK_eq, if_pos hw]
  rcases hn with h | h <;> simp [h]
theorem gtK_head {g : Sg} {a b : T} (ho : oftB a b = true) (hw : wtT g a = wtT g b) (h1 : ¬ a.head < 0) (h2 : ¬ b.head < 0) (hh : a.head ≠ b.head) : gtK g a b = decide (b.head < a.head) := by
  rw [gtK_eq, ho, if_pos hw, if_neg hh]; simp [h1, h2]
theorem gtK_args {g : Sg} {a b : T} (ho : oftB a b = true) (hw : wtT g a = wtT g b) (h1 : ¬ a.head < 0) (h2 : ¬ b.head < 0) (hh : a.head = b.head) : gtK g a b = gtL g a.args b.args := by
  rw [gtK_eq, ho, if_pos hw, if_pos hh]; simp [h1, h2]
theorem weightV_ok {g : Sg} (hr : rightG g = true) {t : T} (h : OkT g t) : weightV g t = .tuple #[.int .i64 (wtT g t), .int .i64 0] := by
  unfold weightV; rw [if_pos ((okT_iff hr).2 h)]
def GrI (a b : T) (w1 : World) (i : Value) (wr : World) : Prop := ∃ k : Nat, k ≤ a.args.length ∧ i = .int .i64 k ∧ a.args.take k = b.args.take k ∧ Below w1.heap.size w1 wr
theorem take_snoc8 {a b : List T} {k : Nat} {s : T} (h : a.take k = b.take k) (h1 : a[k]? = some s) (h2 : b[k]? = some s) : a.take (k + 1) = b.take (k + 1) := by
  rw [List.take_add_one, List.take_add_one, h, h1, h2]
set_option maxRecDepth 100000 in
set_option maxHeartbeats 8000000 in
theorem greater_any (g : Sg) (hr : rightG g = true) : ∀ (N : Nat) (a b : T), a.size ≤ N → OkT g a → OkT g b → ∀ (n₀ : Nat) (ga : Option Addr) (gc : Nat) (pa : Option Addr) (ca : Nat) (pb : Option Addr) (cb : Nat) (w : World), n₀ ≤ w.heap.size → IsSg n₀ w g ga gc →
    (Lit.int .i64 a.head).wf = true → (Lit.int .i64 b.head).wf = true → IsArgs n₀ w a.args pa ca → IsArgs n₀ w b.args pb cb →
    Calls Tryz.prog 119 #[.slice ga g.length gc, tm a.head pa a.args.length ca, tm b.head pb b.args.length cb] w fun e w' => e = .returned (.bool (gtK g a b)) ∧ Below w.heap.size w w' := by
  intro N
  induction N with
  | zero => intro a b ha; have := T.size_pos a; omega
  | succ N ih =>
    intro a b ha hoa hob n₀ ga gc pa ca pb cb w hn hG haw hbw hA hB
    have IH := Lib.hid ih
    clear ih
    have HS := Lib.hid (show ∀ s ∈ a.args, s.size ≤ N from fun s hs => by
      obtain ⟨i, hi⟩ := List.getElem?_of_mem hs
      have h1 := T.size_lt_of_mem hi
      have h2 := T.size_eq a
      omega)
    have HOA := Lib.hid hoa
    have HOB := Lib.hid hob
    have HAW := Lib.hid haw
    have HBW := Lib.hid hbw
    have hca := check_ok hoa.1
    have hcb := check_ok hob.1
    have hsa := hca.1
    have hsb := hcb.1
    have HBB := Lib.hid hcb.2.2
    have hlc : a.args.length ≤ ca ∧ ca ≤ maxLen := ⟨hA.1, hA.2.1⟩
    have hld : b.args.length ≤ cb ∧ cb ≤ maxLen := ⟨hB.1, hB.2.1⟩
    unfold maxLen at hlc hld
    obtain ⟨hl1, hl2⟩ := hlc
    obtain ⟨hl3, hl4⟩ := hld
    have d0 := ((((((Later.below (Below.refl _ w)).and (later_sg (hG.mono hn))).and (later_args (hB.mono hn))).and (later_args (hA.mono hn))).push (Below.refl _ _) a.head pa a.args.length ca).push (Below.refl _ _) b.head pb b.args.length cb)
    simp only [heap_alloc_size] at d0
    have D := Lib.hid d0
    have hWA := weightV_ok hr hoa
    have hWB := weightV_ok hr hob
    clear hA hB hG d0 haw hbw hoa hob hca hcb
    go_enter Tryz.func119, Tryz.ntmps119
    go_wp2_with fail
    generalize (w.alloc (tmCells a.head pa a.args.length ca)).alloc (tmCells b.head pb b.args.length cb) = w1 at D ⊢
    generalize hb0 : w.heap.size = b0 at D ⊢
    have HB0 := Lib.hid hb0
    clear hb0
    refine (often_any a b (by omega) (by omega) HBB.out w1.heap.size pa ca pb cb w1 (Nat.le_refl _) HBW.out D.out.now.2.2.1 D.out.now.2.2.2.1).mono ?_
    rintro e w2 ⟨rfl, hb⟩
    have D2 := Lib.hid (D.out.mv hb)
    clear hb D
    cases ho : oftB a b with
    | false =>
      have HE := Lib.hid (gtK_often (g := g) ho)
      have HQ := Lib.hid D2.out.now.2.2.2.2.2
      clear D2 ho hWA hWB
      go_wp2
      go_ret
      exact ⟨by rw [HE.out]; rfl, by rw [HB0.out]; exact HQ.out⟩
    | true =>
    have HO := Lib.hid ho
    obtain ⟨⟨y0, y1⟩, ⟨x0, x1⟩, _⟩ := D2.out.now
    go_wp2_with fail
    clear y0 y1 x0 x1
    refine (r7Weight_any g a (by omega) w2.heap.size ga gc pa ca w2 (Nat.le_refl _) D2.out.now.2.2.2.2.1 D2.out.now.2.2.1).mono ?_
    rw [hWA]
    rintro e w3 ⟨rfl, hb⟩
    have D3 := Lib.hid (D2.out.mv hb)
    clear hb D2 ho
    obtain ⟨⟨y0, y1⟩, ⟨x0, x1⟩, _⟩ := D3.out.now
    go_wp2_with fail
    clear y0 y1 x0 x1
    refine (r7Weight_any g b (by omega) w3.heap.size ga gc pb cb w3 (Nat.le_refl _) D3.out.now.2.2.2.2.1 D3.out.now.2.2.2.1).mono ?_
    rw [hWB]
    rintro e w4 ⟨rfl, hb⟩
    have D4 := Lib.hid (D3.out.mv hb)
    clear hb D3 hWA hWB
    obtain ⟨⟨y0, y1⟩, ⟨x0, x1⟩, _⟩ := D4.out.now
    by_cases hw : wtT g a = wtT g b
    case neg =>
      have HE := Lib.hid (gtK_weight HO.out hw)
      have HQ := Lib.hid D4.out.now.2.2.2.2.2
      generalize wtT g a = za at *
      generalize wtT g b = zb at *
      have hne : (za != zb) = true := by simpa using hw
      clear D4
      go_wp2
      go_ret
      exact ⟨by rw [HE.out]; first | rfl | simp, by rw [HB0.out]; exact HQ.out⟩
    have HW := Lib.hid hw
    have hbe : (wtT g a != wtT g b) = false := by simpa using hw
    clear hw
    by_cases h1 : a.head < 0
    · have HE := Lib.hid (gtK_neg (b := b) HW.out (.inl h1))
      have HQ := Lib.hid D4.out.now.2.2.2.2.2
      clear D4
      go_wp2
      go_ret
      exact ⟨by rw [HE.out]; rfl, by rw [HB0.out]; exact HQ.out⟩
    by_cases h2 : b.head < 0
    · have HE := Lib.hid (gtK_neg (a := a) HW.out (.inr h2))
      have HQ := Lib.hid D4.out.now.2.2.2.2.2
      clear D4
      go_wp2
      go_ret
      exact ⟨by rw [HE.out]; rfl, by rw [HB0.out]; exact HQ.out⟩
    by_cases hh : a.head = b.head
    case neg =>
      have HE := Lib.hid (gtK_head HO.out HW.out h1 h2 hh)
      have HQ := Lib.hid D4.out.now.2.2.2.2.2
      have hne : (a.head != b.head) = true := by simpa using hh
      clear D4
      go_wp2
      go_ret
      exact ⟨by rw [HE.out]; first | rfl | simp, by rw [HB0.out]; exact HQ.out⟩
    have HE := Lib.hid (gtK_args HO.out HW.out h1 h2 hh)
    have hlen := fits_arity HOA.out.2.1 HOB.out.2.1 (by omega) hh
    have HLEN := Lib.hid hlen
    have hbh : (a.head != b.head) = false := by simpa using hh
    have hsz4 := D4.out.now.2.2.2.2.2
    clear hh
    go_wp2
    clear y0 y1 x0 x1
    go_loopw [11] (fun i wr => GrI a b w4 i wr) (fun i _ => a.args.length - (intOf i).toNat)
    case atStart => exact ⟨0, Nat.zero_le _, rfl, by simp, Below.refl _ _⟩
    case round =>
      obtain ⟨k, hk, rfl, hpre, hBw⟩ := hrel
      have HPRE := Lib.hid hpre
      have HBW4 := Lib.hid hBw
      have D5 := Lib.hid (D4.out.mv hBw)
      clear hpre hBw
      obtain ⟨⟨y0, y1⟩, ⟨x0, x1⟩, hAr, hBr, _⟩ := D5.out.now
      by_cases hlt : k < a.args.length
      · obtain ⟨b1, o1, s, a1, c1, hp1, hbn1, hs, hswf, e0, e1, hA1⟩ := hAr.elem (i := k) hlt
        obtain ⟨b2, o2, t, a2, c2, hp2, hbn2, ht, htwf, f0, f1, hB1⟩ := hBr.elem (i := k) (by omega)
        subst hp1 hp2
        have hk0 : (0 : Int) ≤ (k : Int) := Int.natCast_nonneg _
        have hk1 : (k : Int) < (a.args.length : Int) := by omega
        have hk2 : (k : Int) < (b.args.length : Int) := by omega
        have HSA := Lib.hid hs
        have HSB := Lib.hid ht
        have hos := HOA.out.arg (List.mem_of_getElem? hs)
        have hot := HOB.out.arg (List.mem_of_getElem? ht)
        have hss := (check_ok hos.1).1
        have hst := (check_ok hot.1).1
        have KP := Lib.hid (show ∀ W, Below wr.heap.size wr W → (W.cell? ⟨b0, 0, none⟩ = some (.int .i64 a.head) ∧ W.cell? ⟨b0, 1, none⟩ = some (.slice (some ⟨b1, o1, none⟩) a.args.length ca)) ∧ (W.cell? ⟨b0 + 1, 0, none⟩ = some (.int .i64 b.head) ∧ W.cell? ⟨b0 + 1, 1, none⟩ = some (.slice (some ⟨b2, o2, none⟩) b.args.length cb)) ∧ (W.cell? ⟨b1, o1 + k * 2, none⟩ = some (.int .i64 s.head) ∧ W.cell? ⟨b1, o1 + k * 2 + 1, none⟩ = some (.slice a1 s.args.length c1)) ∧ (W.cell? ⟨b2, o2 + k * 2, none⟩ = some (.int .i64 t.head) ∧ W.cell? ⟨b2, o2 + k * 2 + 1, none⟩ = some (.slice a2 t.args.length c2)) ∧ Below wr.heap.size wr W from fun W hW => by
          obtain ⟨⟨y0, y1⟩, ⟨x0, x1⟩, _⟩ := D5.out W hW
          exact ⟨⟨x0, x1⟩, ⟨y0, y1⟩, ⟨(hW.cell (p := ⟨b1, _, none⟩) hbn1).trans e0, (hW.cell (p := ⟨b1, _, none⟩) hbn1).trans e1⟩, ⟨(hW.cell (p := ⟨b2, _, none⟩) hbn2).trans f0, (hW.cell (p := ⟨b2, _, none⟩) hbn2).trans f1⟩, hW⟩)
        have CS := Lib.hid (fun (W : World) (hW : Below wr.heap.size wr W) => refSame_any s t (by omega) (by omega) wr.heap.size a1 c1 a2 c2 W hW.size (hA1.below hW) (hB1.below hW))
        have CG := Lib.hid (fun (W : World) (hW : Below wr.heap.size wr W) => IH.out s t (HS.out s (List.mem_of_getElem? hs)) hos hot W.heap.size ga gc a1 c1 a2 c2 W (Nat.le_refl _) (D5.out W hW).2.2.2.2.1 hswf htwf ((hA1.below hW).mono hW.size) ((hB1.below hW).mono hW.size))
        clear hs ht hswf htwf hA1 hB1 hAr hBr hos hot
        by_cases hst2 : s = t
        · have HST := Lib.hid (take_snoc8 HPRE.out HSA.out (by rw [HSB.out, hst2]))
          have hcm : decide (T.cmp s t = 0) = true := decide_eq_true (T.cmp_zero.2 hst2)
          rw [hcm] at CS
          clear CG hcm hst2
          go_wp2_with fail
          refine wp_region_noPanic ?_
          go_region_held3 (fun w' => (w'.cell? ⟨b0, 0, none⟩ = some (.int .i64 a.head) ∧ w'.cell? ⟨b0, 1, none⟩ = some (.slice (some ⟨b1, o1, none⟩) a.args.length ca)) ∧ (w'.cell? ⟨b0 + 1, 0, none⟩ = some (.int .i64 b.head) ∧ w'.cell? ⟨b0 + 1, 1, none⟩ = some (.slice (some ⟨b2, o2, none⟩) b.args.length cb)) ∧ (w'.cell? ⟨b1, o1 + k * 2, none⟩ = some (.int .i64 s.head) ∧ w'.cell? ⟨b1, o1 + k * 2 + 1, none⟩ = some (.slice a1 s.args.length c1)) ∧ (w'.cell? ⟨b2, o2 + k * 2, none⟩ = some (.int .i64 t.head) ∧ w'.cell? ⟨b2, o2 + k * 2 + 1, none⟩ = some (.slice a2 t.args.length c2)) ∧ Below wr.heap.size wr w')
                (first
                  | exact KP.out _ (Below.refl _ _)
                  | exact KP.out _ (Below.refl _ _).drew
                  | exact KP.out _ hB)
                (first
                  | (go_at_call 118; with_reducible refine (CS.out _ (‹_ ∧ _ ∧ _ ∧ _ ∧ Below wr.heap.size wr _›.2.2.2.2)).mono ?_; rintro e u1 ⟨rfl, hu⟩; have hB := bl_call (‹_ ∧ _ ∧ _ ∧ _ ∧ Below wr.heap.size wr _›.2.2.2.2) hu; have hfin := hB))
          all_goals
            refine NoPanic.normal ?_
            have HFIN := Lib.hid (HBW4.out.trans (hfin.mono HBW4.out.size))
            go_wp2
            go_roundw
            case rel => exact ⟨k + 1, by omega, by go_num, HST.out, HFIN.out⟩
            case measure => simp [intOf]; omega
        · have HR := Lib.hid (show gtK g a b = gtK g s t from by rw [HE.out]; exact gtL_at HPRE.out HLEN.out HSA.out HSB.out hst2)
          have hcm : decide (T.cmp s t = 0) = false := decide_eq_false (fun e => hst2 (T.cmp_zero.1 e))
          rw [hcm] at CS
          clear hcm
          go_wp2_with fail
          refine wp_region_noPanic ?_
          go_region_held3 (fun w' => (w'.cell? ⟨b0, 0, none⟩ = some (.int .i64 a.head) ∧ w'.cell? ⟨b0, 1, none⟩ = some (.slice (some ⟨b1, o1, none⟩) a.args.length ca)) ∧ (w'.cell? ⟨b0 + 1, 0, none⟩ = some (.int .i64 b.head) ∧ w'.cell? ⟨b0 + 1, 1, none⟩ = some (.slice (some ⟨b2, o2, none⟩) b.args.length cb)) ∧ (w'.cell? ⟨b1, o1 + k * 2, none⟩ = some (.int .i64 s.head) ∧ w'.cell? ⟨b1, o1 + k * 2 + 1, none⟩ = some (.slice a1 s.args.length c1)) ∧ (w'.cell? ⟨b2, o2 + k * 2, none⟩ = some (.int .i64 t.head) ∧ w'.cell? ⟨b2, o2 + k * 2 + 1, none⟩ = some (.slice a2 t.args.length c2)) ∧ Below wr.heap.size wr w')
                (first
                  | exact KP.out _ (Below.refl _ _)
                  | exact KP.out _ (Below.refl _ _).drew
                  | exact KP.out _ hB)
                (first
                  | (go_at_call 118; with_reducible refine (CS.out _ (‹_ ∧ _ ∧ _ ∧ _ ∧ Below wr.heap.size wr _›.2.2.2.2)).mono ?_; rintro e u1 ⟨rfl, hu⟩; have hB := bl_call (‹_ ∧ _ ∧ _ ∧ _ ∧ Below wr.heap.size wr _›.2.2.2.2) hu; have hfin := hB))
          all_goals
            refine NoPanic.normal ?_
            obtain ⟨⟨p0, p1⟩, ⟨p2, p3⟩, ⟨p4, p5⟩, ⟨p6, p7⟩, _⟩ := KP.out _ hfin
            go_wp2_with fail
            refine wp_region_noPanic ?_
            go_region_held3 (fun w' => (w'.cell? ⟨b0, 0, none⟩ = some (.int .i64 a.head) ∧ w'.cell? ⟨b0, 1, none⟩ = some (.slice (some ⟨b1, o1, none⟩) a.args.length ca)) ∧ (w'.cell? ⟨b0 + 1, 0, none⟩ = some (.int .i64 b.head) ∧ w'.cell? ⟨b0 + 1, 1, none⟩ = some (.slice (some ⟨b2, o2, none⟩) b.args.length cb)) ∧ (w'.cell? ⟨b1, o1 + k * 2, none⟩ = some (.int .i64 s.head) ∧ w'.cell? ⟨b1, o1 + k * 2 + 1, none⟩ = some (.slice a1 s.args.length c1)) ∧ (w'.cell? ⟨b2, o2 + k * 2, none⟩ = some (.int .i64 t.head) ∧ w'.cell? ⟨b2, o2 + k * 2 + 1, none⟩ = some (.slice a2 t.args.length c2)) ∧ Below wr.heap.size wr w')
                  (first
                    | exact KP.out _ hfin
                    | exact KP.out _ hfin.drew
                    | exact KP.out _ hB2)
                  (first
                    | (go_at_call 119; with_reducible refine (CG.out _ (‹_ ∧ _ ∧ _ ∧ _ ∧ Below wr.heap.size wr _›.2.2.2.2)).mono ?_; rintro e u2 ⟨rfl, hu2⟩; have hB2 := bl_call (‹_ ∧ _ ∧ _ ∧ _ ∧ Below wr.heap.size wr _›.2.2.2.2) hu2; have hfin2 := hB2))
            all_goals
              refine NoPanic.normal ?_
              have HQ := Lib.hid (D5.out _ hfin2).2.2.2.2.2
              go_wp2
              go_ret
              exact ⟨by rw [HR.out]; rfl, by rw [HB0.out]; exact HQ.out⟩
      · obtain rfl : k = a.args.length := by omega
        have HR := Lib.hid (show gtK g a b = false from by
          rw [HE.out]
          exact gtL_end HPRE.out HLEN.out)
        have HQ := Lib.hid D5.out.now.2.2.2.2.2
        clear hAr hBr
        go_wp2
        go_ret
        exact ⟨by rw [HR.out]; rfl, by rw [HB0.out]; exact HQ.out⟩
end Go.Proofs.YtpncmdlbmnmahaaGreat

/- Plain facts for the document's answer of layer 8: rows without one another's terms. -/
namespace Go.Proofs.YtpncmdlbmnmahaaGreat
set_option linter.unusedVariables false
set_option linter.unusedSimpArgs false
open Go.RowKit
theorem diffM_perm : ∀ (a : List T) {b b' : List T}, b.Perm b' → diffM a b = diffM a b'
  | [], _, _, _ => rfl
  | t :: a, b, b', h => by
    simp only [diffM]
    by_cases q : t ∈ b
    · rw [if_pos q, if_pos (h.mem_iff.1 q), diffM_perm a (h.erase t)]
    · rw [if_neg q, if_neg (fun e => q (h.mem_iff.2 e)), diffM_perm a h]
/-- What is not used of a row. -/
def rem : List T → List Bool → List T
  | t :: b, u :: us => if u then rem b us else t :: rem b us
  | _, _ => []
theorem mem_rem {x : T} : ∀ {b : List T} {us : List Bool}, x ∈ rem b us ↔ ∃ j : Nat, us[j]? = some false ∧ b[j]? = some x
  | [], us => by simp [rem]
  | t :: b, [] => by simp [rem]
  | t :: b, u :: us => by
    have ih := mem_rem (x := x) (b := b) (us := us)
    cases u with
    | true =>
      simp only [rem, if_pos]
      rw [ih]
      constructor
      · rintro ⟨j, h1, h2⟩; exact ⟨j + 1, by simpa using h1, by simpa using h2⟩
      · rintro ⟨j, h1, h2⟩
        cases j with
        | zero => simp at h1
        | succ j => exact ⟨j, by simpa using h1, by simpa using h2⟩
    | false =>
      simp only [rem, Bool.false_eq_true, if_false, List.mem_cons]
      rw [ih]
      constructor
      · rintro (rfl | ⟨j, h1, h2⟩)
        · exact ⟨0, rfl, rfl⟩
        · exact ⟨j + 1, by simpa using h1, by simpa using h2⟩
      · rintro ⟨j, h1, h2⟩
        cases j with
        | zero => left; simpa using h2.symm
        | succ j => exact .inr ⟨j, by simpa using h1, by simpa using h2⟩
theorem rem_set {x : T} : ∀ {b : List T} {us : List Bool} {j : Nat}, us[j]? = some false → b[j]? = some x → (rem b us).Perm (x :: rem b (us.set j true))
  | [], us, j, _, h => by simp at h
  | t :: b, [], j, h, _ => by simp at h
  | t :: b, u :: us, 0, h1, h2 => by
    simp at h1 h2
    subst h1 h2
    simp [rem]
  | t :: b, u :: us, j + 1, h1, h2 => by
    have ih := rem_set (b := b) (us := us) (j := j) (by simpa using h1) (by simpa using h2)
    cases u with
    | true => simpa [rem] using ih
    | false =>
      simp only [rem, List.set_cons_succ, Bool.false_eq_true, if_false]
      exact (ih.cons t).trans (.swap x t _)
theorem rem_all : ∀ (b : List T), rem b (List.replicate b.length false) = b
  | [] => rfl
  | t :: b => by simp [rem, List.replicate_succ, rem_all b]
theorem diffM_keep {x : T} {r b : List T} {us : List Bool} (h : ∀ j : Nat, us[j]? = some false → b[j]? ≠ some x) : diffM (x :: r) (rem b us) = x :: diffM r (rem b us) := by
  simp only [diffM]
  rw [if_neg]
  intro e
  obtain ⟨j, h1, h2⟩ := mem_rem.1 e
  exact h j h1 h2
theorem diffM_use {x : T} {r b : List T} {us : List Bool} {j : Nat} (h1 : us[j]? = some false) (h2 : b[j]? = some x) : diffM (x :: r) (rem b us) = diffM r (rem b (us.set j true)) := by
  simp only [diffM]
  have hm : x ∈ rem b us := mem_rem.2 ⟨j, h1, h2⟩
  rw [if_pos hm]
  refine diffM_perm r ?_
  have := (rem_set h1 h2).erase x
  simpa using this
theorem diffM_sub : ∀ (a b : List T), ∀ t ∈ diffM a b, t ∈ a
  | [], b, t, h => by simp [diffM] at h
  | x :: a, b, t, h => by
    simp only [diffM] at h
    split at h
    · exact List.mem_cons_of_mem _ (diffM_sub a _ t h)
    · rcases List.mem_cons.1 h with rfl | h
      · exact List.mem_cons_self ..
      · exact List.mem_cons_of_mem _ (diffM_sub a _ t h)
theorem diffM_length : ∀ (a b : List T), (diffM a b).length ≤ a.length
  | [], b => by simp [diffM]
  | x :: a, b => by
    simp only [diffM]
    split
    · have := diffM_length a (b.erase x); simp; omega
    · have := diffM_length a b; simp; omega
end Go.Proofs.YtpncmdlbmnmahaaGreat

/- Contracts of the document's answer for rows (layer 8): without. -/
namespace Go.Proofs.YtpncmdlbmnmahaaGreat
set_option linter.unusedVariables false
set_option linter.unusedSimpArgs false
open Go.RowKit
theorem infoBool : (Tryz.prog.info? 4).map (fun i => (i.zero, i.size, i.bytes)) = some (some (.bool false), 1, 1) := by kernel_rfl
/-- The row of what is used. -/
def UsB (ub : Nat) (us : List Bool) (W : World) : Prop := W.heap[ub]? = some (.cells (us.map Value.bool).toArray 4 (0, 0))
theorem UsB.later {ub : Nat} {us : List Bool} {W W' : World} (h : UsB ub us W) (hb : Below W.heap.size W W') : UsB ub us W' := by
  have hlt : ub < W.heap.size := (Array.getElem?_eq_some_iff.1 h).1
  exact (hb.block ub hlt).trans h
theorem UsB.cell {ub : Nat} {us : List Bool} {W : World} (h : UsB ub us W) {j : Nat} {u : Bool} (hj : us[j]? = some u) : W.cell? ⟨ub, j, none⟩ = some (.bool u) := by
  unfold UsB at h
  simp [World.cell?, h, hj]
theorem UsB.frozen {ub : Nat} {us : List Bool} {W : World} (h : UsB ub us W) (j : Nat) : W.frozen? ⟨ub, j, none⟩ = false := by
  unfold UsB at h
  simp [World.frozen?, h]
theorem UsB.set {ub : Nat} {us : List Bool} {W : World} (h : UsB ub us W) (j : Nat) (u : Bool) : UsB ub (us.set j u) (W.setCell ⟨ub, j, none⟩ (.bool u)) := by
  unfold UsB at *
  rw [heap_setCell_same h]
  simp [List.map_set]
theorem UsB.kept {ub : Nat} {us : List Bool} {W W' : World} (h : UsB ub us W) (hk : W'.heap[ub]? = W.heap[ub]?) : UsB ub us W' := hk.trans h
structure WoI (A B : List T) (b1 ub k : Nat) (ov : Value) (us : List Bool) (O : List T) (w wr : World) : Prop where
  b : Below b1 w wr
  n : b1 ≤ ub
  u : UsB ub us wr
  ul : us.length = B.length
  o : OA b1 ov O wr
  ne : ov.ownBlock ≠ some ub
  e : O ++ diffM (A.drop k) (rem B us) = diffM A B
  ol : O.length ≤ k
theorem WoI.later {A B : List T} {b1 ub k : Nat} {ov : Value} {us : List Bool} {O : List T} {w wr w' : World} (h : WoI A B b1 ub k ov us O w wr) (hn : b1 ≤ wr.heap.size) (hb : Below wr.heap.size wr w') : WoI A B b1 ub k ov us O w w' :=
  ⟨h.b.trans (hb.mono hn), h.n, h.u.later hb, h.ul, h.o.later hn hb, h.ne, h.e, h.ol⟩
/-- It is used by another one. -/
theorem WoI.use {A B : List T} {b1 ub k j : Nat} {ov : Value} {us : List Bool} {O : List T} {w wr : World} {x : T} (h : WoI A B b1 ub k ov us O w wr) (hx : A[k]? = some x) (h1 : us[j]? = some false) (h2 : B[j]? = some x) : WoI A B b1 ub (k + 1) ov (us.set j true) O w (wr.setCell ⟨ub, j, none⟩ (.bool true)) := by
  obtain ⟨hkl, hke⟩ := List.getElem?_eq_some_iff.1 hx
  have he := h.e
  rw [List.drop_eq_getElem_cons hkl, hke, diffM_use h1 h2] at he
  have hb : Below b1 wr (wr.setCell ⟨ub, j, none⟩ (.bool true)) := (Below.refl _ _).setCell h.n _
  have hh : ∀ g, ov.ownBlock = some g → (wr.setCell ⟨ub, j, none⟩ (.bool true)).heap[g]? = wr.heap[g]? := fun g hg => Below.heap_setCell _ _ _ _ (fun e => h.ne (by rw [hg, e]))
  exact ⟨h.b.trans hb, h.n, h.u.set j true, by simpa using h.ul, h.o.kept hb hh, h.ne, he, by have := h.ol; omega⟩
/-- It is left. -/
theorem WoI.keep {A B : List T} {b1 ub k : Nat} {ov v' : Value} {us : List Bool} {O : List T} {w wr w' : World} {x : T} (h : WoI A B b1 ub k ov us O w wr) (hx : A[k]? = some x) (hno : ∀ j : Nat, us[j]? = some false → B[j]? ≠ some x) (hO : OA b1 v' (O ++ [x]) w') (hg : wr.grownBy w' ov.ownBlock) (hv : v'.ownBlock = ov.ownBlock ∨ v'.ownBlock = some wr.heap.size) (hn : b1 ≤ wr.heap.size) : WoI A B b1 ub (k + 1) v' us (O ++ [x]) w w' := by
  obtain ⟨hkl, hke⟩ := List.getElem?_eq_some_iff.1 hx
  have he := h.e
  rw [List.drop_eq_getElem_cons hkl, hke, diffM_keep hno] at he
  have hul : ub < wr.heap.size := (Array.getElem?_eq_some_iff.1 h.u).1
  have hb : Below b1 wr w' := (Below.refl b1 wr).grown hg hn (fun k e => (h.o.block e).1)
  refine ⟨h.b.trans hb, h.n, h.u.kept (hg.block ub hul (fun e => h.ne e.symm)), h.ul, hO, fun e => ?_, by rw [← he]; simp, by have := h.ol; simp; omega⟩
  rcases hv with hv | hv
  · exact h.ne (hv ▸ e)
  · rw [hv] at e; cases e; omega
def WoS (A B : List T) (b1 ub : Nat) (w : World) (ov i : Value) (wr : World) : Prop := ∃ (k : Nat) (us : List Bool) (O : List T), k ≤ A.length ∧ i = .int .i64 k ∧ WoI A B b1 ub k ov us O w wr
def WoJ (B : List T) (us : List Bool) (x : T) (w1 : World) (av jv : Value) (wr : World) : Prop := ∃ j : Nat, j ≤ B.length ∧ jv = .int .i64 j ∧ ((av = .int .i64 (-1) ∧ ∀ (l : Nat), l < j → us[l]? = some false → B[l]? ≠ some x) ∨ (∃ l : Nat, av = .int .i64 l ∧ l < B.length ∧ us[l]? = some false ∧ B[l]? = some x)) ∧ Below w1.heap.size w1 wr
def WoPost (D : List T) (w : World) (e : Ending) (w' : World) : Prop := ∃ p c, e = .returned (.slice p D.length c) ∧ IsArgs w'.heap.size w' D p c ∧ Below w.heap.size w w'
set_option maxRecDepth 100000 in
set_option maxHeartbeats 4000000 in
theorem rWithout_any (A B : List T) (hla : A.length ≤ 1000000) (hlb : B.length ≤ 1000000) (hsa : ∀ t ∈ A, t.size ≤ 1000000000000) (hsb : ∀ t ∈ B, t.size ≤ 1000000000000) (n₀ : Nat) (pa : Option Addr) (ca : Nat) (pb : Option Addr) (cb : Nat) (w : World) (hn : n₀ ≤ w.heap.size) (hA : IsArgs n₀ w A pa ca) (hB : IsArgs n₀ w B pb cb) :
    Calls Tryz.prog 87 #[.slice pa A.length ca, .slice pb B.length cb] w (WoPost (diffM A B) w) := by
  have HA := Lib.hid (hA.mono hn)
  have HB := Lib.hid (hB.mono hn)
  have hla1 := hA.1
  have hla2 := hA.2.1
  have hlb1 := hB.1
  have hlb2 := hB.2.1
  unfold maxLen at hla2 hlb2
  have HSA := Lib.hid hsa
  have HSB := Lib.hid hsb
  clear hA hB hsa hsb
  have hmk : ∀ W : World, (Instr.makeSlice 141 (.int .i64 (B.length : Int)) (.int .i64 (B.length : Int))).run Tryz.prog W = .ok (.slice (some ⟨W.heap.size, 0, none⟩) B.length B.length) (W.alloc (.cells (madeCells #[.bool false] B.length) 4)) := fun W => by
    obtain ⟨i0, hi, hz0, hz1, hz2⟩ := info_parts infoBool
    exact run_make_row 141 4 i0 _ Tryz.underlying141 hi hz0 hz1 rfl .i64 .i64 B.length (by rw [hz2]; omega) (by omega) W
  go_enter Tryz.func87, Tryz.ntmps87
  go_wp2
  have hI0 : WoI A B w.heap.size w.heap.size 0 (.slice none 0 0) (List.replicate B.length false) [] w (w.alloc (.cells (madeCells #[.bool false] B.length) 4)) := by
    refine ⟨(Below.refl _ _).alloc (Nat.le_refl _) _, Nat.le_refl _, ?_, by simp, OA.nil _ _, by simp [Value.ownBlock], by simp [rem_all], Nat.le_refl _⟩
    unfold UsB
    rw [heap_alloc_new]
    congr 2
    refine Array.ext (by simp [madeCells]) fun i h1 h2 => ?_
    simp [madeCells, Nat.mod_one]
  have HI0 := Lib.hid hI0
  have hz1 : w.heap.size ≤ (w.alloc (.cells (madeCells #[.bool false] B.length) 4)).heap.size := by simp
  generalize w.alloc (.cells (madeCells #[.bool false] B.length) 4) = w1 at HI0 hz1 ⊢
  clear hI0 hmk
  go_loopw [6, 7] (fun ov i wr => WoS A B w.heap.size w.heap.size w ov i wr) (fun _ i _ => A.length - (intOf i).toNat)
  case atStart => exact ⟨0, _, _, Nat.zero_le _, rfl, HI0.out⟩
  case round =>
    obtain ⟨k, us, O, hk, rfl, hI⟩ := hrel
    have HI := Lib.hid hI
    have hnz := hI.b.size
    clear hI HI0
    by_cases hlt : k < A.length
    · obtain ⟨b1, o1, x, a1, c1, rfl, hb1, hx, hxw, e0, e1, hxA⟩ := (HA.out.below HI.out.b).elem (i := k) hlt
      have hk0 : (0 : Int) ≤ (k : Int) := Int.natCast_nonneg _
      have hk1 : (k : Int) < (A.length : Int) := by omega
      have HX := Lib.hid (And.intro hx (And.intro hxw hxA))
      have hxs := HSA.out x (List.mem_of_getElem? hx)
      clear hx hxw hxA
      have hb1w : b1 < wr.heap.size := by omega
      obtain ⟨wo, rfl⟩ : ∃ wo, wo = wr := ⟨_, rfl⟩
      go_wp2
      go_loopw [8, 9] (fun av jv W' => WoJ B us x wo av jv W') (fun av jv _ => B.length - (intOf jv).toNat)
      case atStart => exact ⟨0, Nat.zero_le _, rfl, .inl ⟨rfl, fun l hl => by omega⟩, Below.refl _ _⟩
      case round =>
        obtain ⟨j, hj, rfl, hat, hB2⟩ := hrel
        have HB2 := Lib.hid hB2
        have hB2z := hB2.size
        have HI2 := Lib.hid (HI.out.later hnz hB2)
        have e0' := (hB2.cell (p := ⟨b1, _, none⟩) hb1w).trans e0
        have e1' := (hB2.cell (p := ⟨b1, _, none⟩) hb1w).trans e1
        clear hB2
        have hj0 : (0 : Int) ≤ (j : Int) := Int.natCast_nonneg _
        rcases hat with ⟨rfl, hno⟩ | ⟨l, rfl, hll, hl1, hl2⟩
        · have HNO := Lib.hid hno
          clear hno
          by_cases hjb : j < B.length
          · have hj1 : (j : Int) < (B.length : Int) := by omega
            have hul := HI2.out.ul
            obtain ⟨u, hu⟩ : ∃ u, us[j]? = some u := ⟨_, List.getElem?_eq_getElem (by omega)⟩
            have HU := Lib.hid hu
            have hcu := HI2.out.u.cell hu
            obtain ⟨b2, o2, y, a2, c2, rfl, hb2, hy, hyw, f0, f1, hyA⟩ := (HB.out.below HI2.out.b).elem (i := j) hjb
            have HY := Lib.hid hy
            have hys := HSB.out y (List.mem_of_getElem? hy)
            have hb2w : b2 < wr.heap.size := by omega
            clear hu hy hul
            cases u with
            | true =>
              go_wp2
              go_quiet (fail)
              go_wp2
              go_roundw
              case rel => exact ⟨j + 1, by omega, by go_num, .inl ⟨rfl, fun l hl h1 h2 => by
                by_cases e : l = j
                · subst e; rw [HU.out] at h1; cases h1
                · exact HNO.out l (by omega) h1 h2⟩, HB2.out.trans ((bl_drew' _ _).mono (by omega))⟩
              case measure => simp [intOf]; omega
            | false =>
              obtain ⟨hxw, hxA⟩ := HX.out.2
              have HYW := Lib.hid (And.intro hyw hyA)
              have KP := Lib.hid (show ∀ W, Below wr.heap.size wr W → W.cell? ⟨w.heap.size, j, none⟩ = some (.bool false) ∧ (W.cell? ⟨b1, o1 + k * 2, none⟩ = some (.int .i64 x.head) ∧ W.cell? ⟨b1, o1 + k * 2 + 1, none⟩ = some (.slice a1 x.args.length c1)) ∧ (W.cell? ⟨b2, o2 + j * 2, none⟩ = some (.int .i64 y.head) ∧ W.cell? ⟨b2, o2 + j * 2 + 1, none⟩ = some (.slice a2 y.args.length c2)) ∧ Below wr.heap.size wr W from fun W hW =>
                ⟨(HI2.out.u.later hW).cell HU.out, ⟨(hW.cell (p := ⟨b1, _, none⟩) (by show b1 < _; omega)).trans e0', (hW.cell (p := ⟨b1, _, none⟩) (by show b1 < _; omega)).trans e1'⟩, ⟨(hW.cell (p := ⟨b2, _, none⟩) (by show b2 < _; omega)).trans f0, (hW.cell (p := ⟨b2, _, none⟩) (by show b2 < _; omega)).trans f1⟩, hW⟩)
              have CS := Lib.hid (fun (W : World) (hW : Below wr.heap.size wr W) => refSame_any x y (by omega) (by omega) w.heap.size a1 c1 a2 c2 W (by have := hW.size; omega) (hxA.below ((HB2.out.mono hnz).trans (hW.mono (by omega)))) (hyA.below (hW.mono (by omega))))
              obtain ⟨p0, ⟨p1, p2⟩, ⟨p3, p4⟩, _⟩ := KP.out _ (Below.refl _ _)
              clear hxw hxA hyw hyA e0' e1' f0 f1 hcu
              by_cases hxy : x = y
              · have HXY := Lib.hid hxy
                rw [show decide (T.cmp x y = 0) = true from decide_eq_true (T.cmp_zero.2 hxy)] at CS
                clear hxy
                go_wp2_with fail
                refine wp_region_noPanic ?_
                go_region_held3 (fun w' => w'.cell? ⟨w.heap.size, j, none⟩ = some (.bool false) ∧ (w'.cell? ⟨b1, o1 + k * 2, none⟩ = some (.int .i64 x.head) ∧ w'.cell? ⟨b1, o1 + k * 2 + 1, none⟩ = some (.slice a1 x.args.length c1)) ∧ (w'.cell? ⟨b2, o2 + j * 2, none⟩ = some (.int .i64 y.head) ∧ w'.cell? ⟨b2, o2 + j * 2 + 1, none⟩ = some (.slice a2 y.args.length c2)) ∧ Below wr.heap.size wr w')
                  (first
                    | exact KP.out _ (Below.refl _ _)
                    | exact KP.out _ (Below.refl _ _).drew
                    | exact KP.out _ hB)
                  (first
                    | (go_at_call 118; with_reducible refine (CS.out _ (‹_ ∧ _ ∧ _ ∧ Below wr.heap.size wr _›.2.2.2)).mono ?_; rintro e u1 ⟨rfl, hu⟩; have hB := bl_call (‹_ ∧ _ ∧ _ ∧ Below wr.heap.size wr _›.2.2.2) hu; have hfin := hB))
                all_goals
                  refine NoPanic.normal ?_
                  have HFIN := Lib.hid (HB2.out.trans (hfin.mono hB2z))
                  go_wp2
                  go_roundw
                  case rel => exact ⟨j + 1, by omega, by go_num, .inr ⟨j, rfl, hjb, HU.out, by rw [HY.out, HXY.out]⟩, HFIN.out⟩
                  case measure => simp [intOf]; omega
              · have HXY := Lib.hid hxy
                rw [show decide (T.cmp x y = 0) = false from decide_eq_false (fun e => hxy (T.cmp_zero.1 e))] at CS
                clear hxy
                go_wp2_with fail
                refine wp_region_noPanic ?_
                go_region_held3 (fun w' => w'.cell? ⟨w.heap.size, j, none⟩ = some (.bool false) ∧ (w'.cell? ⟨b1, o1 + k * 2, none⟩ = some (.int .i64 x.head) ∧ w'.cell? ⟨b1, o1 + k * 2 + 1, none⟩ = some (.slice a1 x.args.length c1)) ∧ (w'.cell? ⟨b2, o2 + j * 2, none⟩ = some (.int .i64 y.head) ∧ w'.cell? ⟨b2, o2 + j * 2 + 1, none⟩ = some (.slice a2 y.args.length c2)) ∧ Below wr.heap.size wr w')
                  (first
                    | exact KP.out _ (Below.refl _ _)
                    | exact KP.out _ (Below.refl _ _).drew
                    | exact KP.out _ hB)
                  (first
                    | (go_at_call 118; with_reducible refine (CS.out _ (‹_ ∧ _ ∧ _ ∧ Below wr.heap.size wr _›.2.2.2)).mono ?_; rintro e u1 ⟨rfl, hu⟩; have hB := bl_call (‹_ ∧ _ ∧ _ ∧ Below wr.heap.size wr _›.2.2.2) hu; have hfin := hB))
                all_goals
                  refine NoPanic.normal ?_
                  have HFIN := Lib.hid (HB2.out.trans (hfin.mono hB2z))
                  go_wp2
                  go_roundw
                  case rel => exact ⟨j + 1, by omega, by go_num, .inl ⟨rfl, fun l hl h1 h2 => by
                    by_cases e : l = j
                    · subst e; rw [HY.out] at h2; exact HXY.out (Option.some.inj h2).symm
                    · exact HNO.out l (by omega) h1 h2⟩, HFIN.out⟩
                  case measure => simp [intOf]; omega
          · obtain rfl : j = B.length := by omega
            have HNO2 := Lib.hid (show ∀ l : Nat, us[l]? = some false → B[l]? ≠ some x from fun l h1 h2 => HNO.out l (List.getElem?_eq_some_iff.1 h2).1 h1 h2)
            have hal : Below wr.heap.size wr (wr.alloc (.cells #[.int .i64 x.head, .slice a1 x.args.length c1] 42)) := (Below.refl _ _).alloc (Nat.le_refl _) _
            have HI3 := Lib.hid (HI2.out.later (by omega) hal)
            have HSRC := Lib.hid (show Src w.heap.size (wr.alloc (.cells #[.int .i64 x.head, .slice a1 x.args.length c1] 42)) [x] (some ⟨wr.heap.size, 0, none⟩) 1 from
              Src.of_one HX.out.2.1 ((HX.out.2.2.below (HB2.out.mono hnz)).below (hal.mono (by omega))) wr.heap.size (by simp [go_sem]) (by simp [go_sem]))
            have hz3 : w.heap.size ≤ (wr.alloc (.cells #[.int .i64 x.head, .slice a1 x.args.length c1] 42)).heap.size := by simp; omega
            clear hal HNO
            go_wp2_with (at_builtin; refine stopHere ?_)
            generalize wr.alloc (.cells #[.int .i64 x.head, .slice a1 x.args.length c1] 42) = w3 at HI3 HSRC hz3 ⊢
            refine Lib.hid ?_
            refine wpList_append_ts rfl _ _ rfl w.heap.size _ O rfl HI3.out.o hz3 [x] _ _ rfl HSRC.out (by have := HI3.out.ol; simp; omega) ?_
            intro v5 w5 hO5 hg5 hv5
            have HI5 := Lib.hid (HI3.out.keep HX.out.1 HNO2.out hO5 hg5 hv5 hz3)
            clear hO5 hg5 hv5
            go_wp2
            go_roundw
            case rel => exact ⟨k + 1, us, O ++ [x], by omega, by go_num, HI5.out⟩
            case measure => simp [intOf]; omega
        · have hlk0 : (0 : Int) ≤ (l : Int) := Int.natCast_nonneg _
          have hlk1 : (l : Int) < (B.length : Int) := by omega
          have hfr := HI2.out.u.frozen l
          have hcl := HI2.out.u.cell hl1
          have HI5 := Lib.hid (HI2.out.use HX.out.1 hl1 hl2)
          have hlneg : ¬ ((l : Int) < 0) := by omega
          clear hl1 hl2 e0' e1'
          by_cases hjb : j < B.length
          · have hj1 : (j : Int) < (B.length : Int) := by omega
            go_wp2
            go_roundw
            case rel => exact ⟨k + 1, us.set l true, O, by omega, by go_num, HI5.out⟩
            case measure => simp [intOf]; omega
          · have hj1 : ¬ (j : Int) < (B.length : Int) := by omega
            go_wp2
            go_roundw
            case rel => exact ⟨k + 1, us.set l true, O, by omega, by go_num, HI5.out⟩
            case measure => simp [intOf]; omega
    · obtain rfl : k = A.length := by omega
      have he := HI.out.e
      rw [List.drop_of_length_le (Nat.le_refl _)] at he
      simp only [diffM, List.append_nil] at he
      subst he
      obtain ⟨p, c, hv, hR⟩ := HI.out.o.args hnz
      subst hv
      have HR := Lib.hid hR
      clear hR
      go_wp2
      go_ret
      exact ⟨p, c, rfl, HR.out, HI.out.b⟩
end Go.Proofs.YtpncmdlbmnmahaaGreat
