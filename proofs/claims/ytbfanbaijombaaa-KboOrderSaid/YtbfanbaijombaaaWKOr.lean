/- The walk of KboOrder. -/
import Derived.Test.YtbfanbaijombaaaQ1o
import Derived.Test.YtbfanbaijombaaaQ1p
import Derived.Test.YtbfanbaijombaaaSam0
import Derived.Test.YtbfanbaijombaaaVars
import Derived.Deep.RegionHeldLaw
import Derived.Deep.RegionHeld3
import Derived.Deep.CutRange
namespace Go.Proofs.Ytbfanbaijombaaa
set_option linter.unusedVariables false
set_option linter.unusedSimpArgs false
open Go.RowKit

theorem ints_slice8 {w : World} {v : Value} {zs : List Int} (h : IsInts w v zs) : ∃ a c, v = .slice a zs.length c := by
  rcases h with ⟨rfl, rfl⟩ | ⟨g, cap, rfl, _⟩
  · exact ⟨none, 0, rfl⟩
  · exact ⟨_, cap, rfl⟩

theorem vars_length8 (t : T) : (varsOf (T.subs 1 t)).length ≤ t.size := by
  have : ∀ (pre : List (Nat × T)) (acc : List Int), (pre.foldl varStep acc).length ≤ acc.length + pre.length := by
    intro pre
    induction pre with
    | nil => intro acc; simp
    | cons x pre ih => intro acc; rw [List.foldl_cons]; have h1 := ih (varStep acc x); have h2 := varStep_length acc x; simp; omega
  have := this (T.subs 1 t) []
  rw [T.subs_length] at this
  simpa [varsOf] using this

set_option maxRecDepth 100000 in
set_option maxHeartbeats 8000000 in
theorem kboOrder_walk (g : Sg) (a b d : T) (ga : Option Addr) (gc : Nat) (pa : Option Addr) (ca : Nat) (pb : Option Addr) (cb : Nat) (pd : Option Addr) (cd : Nat) (w : World) (haw : (Lit.int .i64 a.head).wf = true) (hbw : (Lit.int .i64 b.head).wf = true) (hdw : (Lit.int .i64 d.head).wf = true)
    (hG : IsSg w.heap.size w g ga gc) (hA : IsArgs w.heap.size w a.args pa ca) (hB : IsArgs w.heap.size w b.args pb cb) (hD : IsArgs w.heap.size w d.args pd cd) :
    Calls Try.prog 5 #[.slice ga g.length gc, tm a.head pa a.args.length ca, tm b.head pb b.args.length cb, tm d.head pd d.args.length cd] w fun e w' => e = .returned (.bool true) ∧ Below w.heap.size w w' := by
  have HAW := Lib.hid haw
  have HBW := Lib.hid hbw
  have HDW := Lib.hid hdw
  have CA := Lib.hid awake8_any
  have d0 := (((((((Later.below (Below.refl _ w)).and (later_sg hG)).and (later_args hD)).and (later_args hB)).and (later_args hA)).push (Below.refl _ _) a.head pa a.args.length ca).push (Below.refl _ _) b.head pb b.args.length cb).push (Below.refl _ _) d.head pd d.args.length cd
  simp only [heap_alloc_size] at d0
  have D := Lib.hid d0
  clear haw hbw hdw hG hA hB hD d0
  go_enter Try.func5, Try.ntmps5
  go_wp2_with fail
  have hsz : (((w.alloc (tmCells a.head pa a.args.length ca)).alloc (tmCells b.head pb b.args.length cb)).alloc (tmCells d.head pd d.args.length cd)).heap.size = w.heap.size + 1 + 1 + 1 := by simp
  generalize ((w.alloc (tmCells a.head pa a.args.length ca)).alloc (tmCells b.head pb b.args.length cb)).alloc (tmCells d.head pd d.args.length cd) = wB at D hsz ⊢
  have d1 := D.out.pushC (Below.refl _ _) #[.int .i64 a.head, .slice pa a.args.length ca, .int .i64 b.head, .slice pb b.args.length cb, .int .i64 d.head, .slice pd d.args.length cd] 25
  rw [hsz] at d1
  have D1 := Lib.hid d1
  clear d1 hsz D
  generalize wB.alloc (.cells #[.int .i64 a.head, .slice pa a.args.length ca, .int .i64 b.head, .slice pb b.args.length cb, .int .i64 d.head, .slice pd d.args.length cd] 25) = w1 at D1 ⊢
  generalize hb0 : w.heap.size = b0 at D1 ⊢
  have HB0 := Lib.hid hb0
  clear hb0
  refine (few8_any g [a, b, d] w1.heap.size ga gc _ 3 w1 (Nat.le_refl _) D1.out.now.2.2.2.2.2.2.2.1 (row_of3 D1.out.now.1 HAW.out HBW.out HDW.out D1.out.now.2.2.2.2.1 D1.out.now.2.2.2.2.2.1 D1.out.now.2.2.2.2.2.2.1)).mono ?_
  rintro e w2 ⟨f1, rfl, hfew, hb⟩
  have D2 := Lib.hid (show Later _ _ from fun X hX => (D1.out.mv hb X hX).2)
  clear hb D1
  cases f1
  case false =>
    have HQ := Lib.hid D2.out.now.2.2.2.2.2.2.2
    clear D2 hfew
    go_wp2
    go_ret
    exact ⟨rfl, by rw [HB0.out]; exact HQ.out⟩
  have hsum := hfew rfl
  simp only [T.sizes] at hsum
  have hza : a.size ≤ 1000000000000 := by omega
  have hzb : b.size ≤ 1000000000000 := by omega
  have hzd : d.size ≤ 1000000000000 := by omega
  clear hfew hsum
  obtain ⟨⟨z0, z1⟩, ⟨y0, y1⟩, ⟨x0, x1⟩, _⟩ := D2.out.now
  go_wp2_with fail
  clear z0 z1 y0 y1 x0 x1
  refine (kCompare_any g a b hza hzb w2.heap.size ga gc pa ca pb cb w2 (Nat.le_refl _) D2.out.now.2.2.2.2.2.2.1 HAW.out HBW.out D2.out.now.2.2.2.1 D2.out.now.2.2.2.2.1).mono ?_
  rw [cmpV_eq]
  rintro e w3 ⟨rfl, hb⟩
  have D3 := Lib.hid (D2.out.mv hb)
  clear hb D2
  obtain ⟨⟨z0, z1⟩, ⟨y0, y1⟩, ⟨x0, x1⟩, _⟩ := D3.out.now
  go_wp2_with fail
  clear z0 z1 y0 y1 x0 x1
  refine (kCompare_any g b d hzb hzd w3.heap.size ga gc pb cb pd cd w3 (Nat.le_refl _) D3.out.now.2.2.2.2.2.2.1 HBW.out HDW.out D3.out.now.2.2.2.2.1 D3.out.now.2.2.2.2.2.1).mono ?_
  rw [cmpV_eq]
  rintro e w4 ⟨rfl, hb⟩
  have D4 := Lib.hid (D3.out.mv hb)
  clear hb D3
  obtain ⟨⟨z0, z1⟩, ⟨y0, y1⟩, ⟨x0, x1⟩, _⟩ := D4.out.now
  go_wp2_with fail
  clear z0 z1 y0 y1 x0 x1
  refine (kCompare_any g a d hza hzd w4.heap.size ga gc pa ca pd cd w4 (Nat.le_refl _) D4.out.now.2.2.2.2.2.2.1 HAW.out HDW.out D4.out.now.2.2.2.1 D4.out.now.2.2.2.2.2.1).mono ?_
  rw [cmpV_eq]
  rintro e w5 ⟨rfl, hb⟩
  have D5 := Lib.hid (D4.out.mv hb)
  clear hb D4
  obtain ⟨⟨z0, z1⟩, ⟨y0, y1⟩, ⟨x0, x1⟩, _⟩ := D5.out.now
  go_wp2_with fail
  clear z0 z1 y0 y1 x0 x1
  refine (kCompare_any g b a hzb hza w5.heap.size ga gc pb cb pa ca w5 (Nat.le_refl _) D5.out.now.2.2.2.2.2.2.1 HBW.out HAW.out D5.out.now.2.2.2.2.1 D5.out.now.2.2.2.1).mono ?_
  rw [cmpV_eq]
  rintro e w6 ⟨rfl, hb⟩
  have D6 := Lib.hid (D5.out.mv hb)
  clear hb D5
  obtain ⟨x, hx⟩ : ∃ x, cmR g a b = x := ⟨_, rfl⟩
  obtain ⟨y, hy⟩ : ∃ x, cmR g b d = x := ⟨_, rfl⟩
  obtain ⟨z, hz⟩ : ∃ x, cmR g a d = x := ⟨_, rfl⟩
  obtain ⟨v, hv⟩ : ∃ x, cmR g b a = x := ⟨_, rfl⟩
  obtain ⟨e1, he1⟩ : ∃ x, errF g [a, b] = x := ⟨_, rfl⟩
  obtain ⟨e2, he2⟩ : ∃ x, errF g [b, d] = x := ⟨_, rfl⟩
  obtain ⟨e3, he3⟩ : ∃ x, errF g [a, d] = x := ⟨_, rfl⟩
  obtain ⟨e4, he4⟩ : ∃ x, errF g [b, a] = x := ⟨_, rfl⟩
  rw [hx, hy, hz, hv, he1, he2, he3, he4]
  by_cases hall : e1 = 0 ∧ e2 = 0 ∧ e3 = 0 ∧ e4 = 0
  · obtain ⟨rfl, rfl, rfl, rfl⟩ := hall
    rw [cm_ok he1] at hx
    rw [cm_ok he2] at hy
    rw [cm_ok he3] at hz
    rw [cm_ok he4] at hv
    obtain ⟨ha0, hb0⟩ := errF_two he1
    have htr := Lib.hid (show x = 1 → y = 1 → z = 1 from fun h1 h2 => by rw [← hz]; exact stand_trans (hx.trans h1) (hy.trans h2))
    have hv2 : v = if x = 2 then 2 else -x := by rw [← hv, stand_swap, hx]
    obtain ⟨sb, hsb⟩ : ∃ sb, sameB a b = sb := ⟨_, rfl⟩
    have HSB := Lib.hid hsb
    have HG2 := Lib.hid (show x = 2 → ¬ ((varsOf (T.subs 1 a)).length + (varsOf (T.subs 1 b)).length = 0) from fun h1 h2 =>
      stand_grd ha0 hb0 (vars_grd (by omega)) (vars_grd (by omega)) (hx.trans h1))
    have hxc : (x = 0 ∧ sb = true ∧ v = 0) ∨ (x = 1 ∧ sb = false ∧ v = -1) ∨ (x = -1 ∧ sb = false ∧ v = 1) ∨ (x = 2 ∧ sb = false ∧ v = 2) := by
      have hn : ∀ {k : Int}, stand g a b = k → k ≠ 0 → sb = false := fun h hk => by
        rw [← hsb]
        cases e : sameB a b with
        | false => rfl
        | true => exact absurd (h.symm.trans (stand_zero.2 ((sameB_iff a b).1 e))) hk
      rcases stand_cases g a b with ⟨h, e⟩ | ⟨h, _⟩ | ⟨h, _⟩ | ⟨h, _⟩
      · have hx0 : x = 0 := hx.symm.trans h
        exact .inl ⟨hx0, by rw [← hsb]; exact (sameB_iff a b).2 e, by rw [hv2, hx0]; rfl⟩
      · have hx0 : x = 1 := hx.symm.trans h
        exact .inr (.inl ⟨hx0, hn h (by decide), by rw [hv2, hx0]; rfl⟩)
      · have hx0 : x = -1 := hx.symm.trans h
        exact .inr (.inr (.inl ⟨hx0, hn h (by decide), by rw [hv2, hx0]; rfl⟩))
      · have hx0 : x = 2 := hx.symm.trans h
        exact .inr (.inr (.inr ⟨hx0, hn h (by decide), by rw [hv2, hx0]; rfl⟩))
    obtain ⟨la, hla⟩ : ∃ x, (varsOf (T.subs 1 a)).length = x := ⟨_, rfl⟩
    obtain ⟨lb, hlb⟩ : ∃ x, (varsOf (T.subs 1 b)).length = x := ⟨_, rfl⟩
    have HLA := Lib.hid hla
    have HLB := Lib.hid hlb
    rw [hla, hlb] at HG2
    have hla2 : la ≤ 1000000000000 := by rw [← hla]; have := vars_length8 a; omega
    have hlb2 : lb ≤ 1000000000000 := by rw [← hlb]; have := vars_length8 b; omega
    clear he1 he2 he3 he4 hx hy hz hv hv2 ha0 hb0 hsb hla hlb
    have hll : (la = 0 ∧ lb = 0 ∧ ¬ x = 2) ∨ (∃ n, lb = n + 1 ∧ (IntKind.i64.wrap ((la : Int) + ((n : Int) + 1)) == 0) = false) ∨ (lb = 0 ∧ ∃ n, la = n + 1 ∧ (IntKind.i64.wrap ((n : Int) + 1) == 0) = false) := by
      cases lb with
      | zero =>
        cases la with
        | zero => exact .inl ⟨rfl, rfl, fun h => HG2.out h rfl⟩
        | succ n => exact .inr (.inr ⟨rfl, n, rfl, by rw [IntWalk.i64_in _ (by omega)]; exact beq_false_of_ne (by omega)⟩)
      | succ n => exact .inr (.inl ⟨n, rfl, by rw [IntWalk.i64_in _ (by omega)]; exact beq_false_of_ne (by omega)⟩)
    have hxz : (x = 0 ∧ sb = true ∧ v = 0 ∧ ((la = 0 ∧ lb = 0) ∨ (∃ n, lb = n + 1 ∧ (IntKind.i64.wrap ((la : Int) + ((n : Int) + 1)) == 0) = false) ∨ (lb = 0 ∧ ∃ n, la = n + 1 ∧ (IntKind.i64.wrap ((n : Int) + 1) == 0) = false))) ∨ (x = 1 ∧ sb = false ∧ v = -1 ∧ ((la = 0 ∧ lb = 0) ∨ (∃ n, lb = n + 1 ∧ (IntKind.i64.wrap ((la : Int) + ((n : Int) + 1)) == 0) = false) ∨ (lb = 0 ∧ ∃ n, la = n + 1 ∧ (IntKind.i64.wrap ((n : Int) + 1) == 0) = false))) ∨ (x = -1 ∧ sb = false ∧ v = 1 ∧ ((la = 0 ∧ lb = 0) ∨ (∃ n, lb = n + 1 ∧ (IntKind.i64.wrap ((la : Int) + ((n : Int) + 1)) == 0) = false) ∨ (lb = 0 ∧ ∃ n, la = n + 1 ∧ (IntKind.i64.wrap ((n : Int) + 1) == 0) = false))) ∨ (x = 2 ∧ sb = false ∧ v = 2 ∧ ((∃ n, lb = n + 1 ∧ (IntKind.i64.wrap ((la : Int) + ((n : Int) + 1)) == 0) = false) ∨ (lb = 0 ∧ ∃ n, la = n + 1 ∧ (IntKind.i64.wrap ((n : Int) + 1) == 0) = false))) := by
      have hlc : (la = 0 ∧ lb = 0) ∨ (∃ n, lb = n + 1 ∧ (IntKind.i64.wrap ((la : Int) + ((n : Int) + 1)) == 0) = false) ∨ (lb = 0 ∧ ∃ n, la = n + 1 ∧ (IntKind.i64.wrap ((n : Int) + 1) == 0) = false) := by
        rcases hll with ⟨h1, h2, _⟩ | h | h
        · exact .inl ⟨h1, h2⟩
        · exact .inr (.inl h)
        · exact .inr (.inr h)
      rcases hxc with ⟨h1, h2, h3⟩ | ⟨h1, h2, h3⟩ | ⟨h1, h2, h3⟩ | ⟨h1, h2, h3⟩
      · exact .inl ⟨h1, h2, h3, hlc⟩
      · exact .inr (.inl ⟨h1, h2, h3, hlc⟩)
      · exact .inr (.inr (.inl ⟨h1, h2, h3, hlc⟩))
      · exact .inr (.inr (.inr ⟨h1, h2, h3, by
          rcases hll with ⟨_, _, h⟩ | h | h
          · exact absurd h1 h
          · exact .inl h
          · exact .inr h⟩))
    clear hxc hll HG2
    have HVA := Lib.hid (show ∀ W, IsArgs W.heap.size W a.args pa ca → Calls Try.prog 16 #[tm a.head pa a.args.length ca] W fun e w' => ∃ pv cv, e = .returned (.slice pv la cv) ∧ Below W.heap.size W w' from fun W hA => (vars_any a hza W.heap.size pa ca W (Nat.le_refl _) HAW.out hA).mono fun e w' h => by
      obtain ⟨vv, h1, h2, h3⟩ := h
      obtain ⟨pv, cv, e1⟩ := ints_slice8 h2
      exact ⟨pv, cv, by rw [h1, e1, HLA.out], h3⟩)
    have HVB := Lib.hid (show ∀ W, IsArgs W.heap.size W b.args pb cb → Calls Try.prog 16 #[tm b.head pb b.args.length cb] W fun e w' => ∃ pv cv, e = .returned (.slice pv lb cv) ∧ Below W.heap.size W w' from fun W hA => (vars_any b hzb W.heap.size pb cb W (Nat.le_refl _) HBW.out hA).mono fun e w' h => by
      obtain ⟨vv, h1, h2, h3⟩ := h
      obtain ⟨pv, cv, e1⟩ := ints_slice8 h2
      exact ⟨pv, cv, by rw [h1, e1, HLB.out], h3⟩)
    rcases hxz with ⟨rfl, rfl, rfl, ⟨rfl, rfl⟩ | ⟨n, rfl, hwz⟩ | ⟨rfl, n, rfl, hwz⟩⟩ | ⟨rfl, rfl, rfl, ⟨rfl, rfl⟩ | ⟨n, rfl, hwz⟩ | ⟨rfl, n, rfl, hwz⟩⟩ | ⟨rfl, rfl, rfl, ⟨rfl, rfl⟩ | ⟨n, rfl, hwz⟩ | ⟨rfl, n, rfl, hwz⟩⟩ | ⟨rfl, rfl, rfl, ⟨n, rfl, hwz⟩ | ⟨rfl, n, rfl, hwz⟩⟩
    all_goals
      obtain ⟨⟨z0, z1⟩, ⟨y0, y1⟩, ⟨x0, x1⟩, _⟩ := D6.out.now
      go_wp2_with fail
      clear z0 z1 y0 y1 x0 x1
      refine (same_any a b hza w6.heap.size pa ca pb cb w6 (Nat.le_refl _) HAW.out HBW.out D6.out.now.2.2.2.1 D6.out.now.2.2.2.2.1).mono ?_
      rw [HSB.out]
      rintro e w7 ⟨rfl, hb⟩
      have D7 := Lib.hid (D6.out.mv hb)
      clear hb D6
      have KP := Lib.hid (show ∀ W, Below w7.heap.size w7 W → (W.cell? ⟨b0, 0, none⟩ = some (.int .i64 a.head) ∧ W.cell? ⟨b0, 1, none⟩ = some (.slice pa a.args.length ca)) ∧ (W.cell? ⟨b0 + 1, 0, none⟩ = some (.int .i64 b.head) ∧ W.cell? ⟨b0 + 1, 1, none⟩ = some (.slice pb b.args.length cb)) ∧ Below w7.heap.size w7 W from fun W hW => by
        obtain ⟨_, ⟨y0, y1⟩, ⟨x0, x1⟩, _⟩ := D7.out W hW
        exact ⟨⟨x0, x1⟩, ⟨y0, y1⟩, hW⟩)
      obtain ⟨⟨x0, x1⟩, ⟨y0, y1⟩, _⟩ := KP.out w7 (Below.refl _ _)
      have CVA := Lib.hid (fun (W : World) (hW : Below w7.heap.size w7 W) => HVA.out W (D7.out W hW).2.2.2.1)
      have CVB := Lib.hid (fun (W : World) (hW : Below w7.heap.size w7 W) => HVB.out W (D7.out W hW).2.2.2.2.1)
      go_wp2_with fail
      refine wp_region_noPanic ?_
      first
        | (go_region_held_law (fun w' => (w'.cell? ⟨b0, 0, none⟩ = some (.int .i64 a.head) ∧ w'.cell? ⟨b0, 1, none⟩ = some (.slice pa a.args.length ca)) ∧ (w'.cell? ⟨b0 + 1, 0, none⟩ = some (.int .i64 b.head) ∧ w'.cell? ⟨b0 + 1, 1, none⟩ = some (.slice pb b.args.length cb)) ∧ Below w7.heap.size w7 w')
          (first
            | exact KP.out _ (Below.refl _ _)
            | exact KP.out _ (Below.refl _ _).drew
            | exact KP.out _ hB)
          (first
            | (go_at_call 16; with_reducible refine (CVA.out _ (‹_ ∧ _ ∧ Below w7.heap.size w7 _›.2.2)).mono ?_; rintro e u1 ⟨pv, cv, rfl, hu⟩; have hB := bl_call (‹_ ∧ _ ∧ Below w7.heap.size w7 _›.2.2) hu)
            | (go_at_call 16; with_reducible refine (CVB.out _ (‹_ ∧ _ ∧ Below w7.heap.size w7 _›.2.2)).mono ?_; rintro e u2 ⟨pv2, cv2, rfl, hu2⟩; have hB := bl_call (‹_ ∧ _ ∧ Below w7.heap.size w7 _›.2.2) hu2; have hfin := hB)))
        | fail
      all_goals
        refine NoPanic.normal ?_
        go_wp2_with fail
        refine (CA.out _).mono ?_
        rintro e w9 ⟨rfl, hb9⟩
        have HQ := Lib.hid (D7.out _ (hfin.trans (hb9.mono hfin.size))).2.2.2.2.2.2.2
        by_cases hy1 : y = 1
        · have htr' := htr.out
          by_cases hxx : z = 1
          · subst hy1 hxx
            go_wp2
            go_ret
            exact ⟨rfl, by rw [HB0.out]; exact HQ.out⟩
          · subst hy1
            go_wp2
            go_ret
            exact ⟨by first | rfl | exact absurd (htr' rfl rfl) hxx, by rw [HB0.out]; exact HQ.out⟩
        · have hy2 : (y != 1) = true := by simpa using hy1
          go_wp2
          go_ret
          exact ⟨rfl, by rw [HB0.out]; exact HQ.out⟩
  · have hbad : (e1 != 0) = true ∨ ((e1 != 0) = false ∧ (e2 != 0) = true) ∨ ((e1 != 0) = false ∧ (e2 != 0) = false ∧ (e3 != 0) = true) ∨ ((e1 != 0) = false ∧ (e2 != 0) = false ∧ (e3 != 0) = false ∧ (e4 != 0) = true) := by
      by_cases h1 : e1 = 0
      · by_cases h2 : e2 = 0
        · by_cases h3 : e3 = 0
          · have h4 : ¬ e4 = 0 := fun h4 => hall ⟨h1, h2, h3, h4⟩
            exact .inr (.inr (.inr ⟨by simpa using h1, by simpa using h2, by simpa using h3, by simpa using h4⟩))
          · exact .inr (.inr (.inl ⟨by simpa using h1, by simpa using h2, by simpa using h3⟩))
        · exact .inr (.inl ⟨by simpa using h1, by simpa using h2⟩)
      · exact .inl (by simpa using h1)
    clear hall he1 he2 he3 he4 hx hy hz hv
    rcases hbad with h1 | ⟨h1, h2⟩ | ⟨h1, h2, h3⟩ | ⟨h1, h2, h3, h4⟩
    · go_wp2_with fail
      refine (CA.out _).mono ?_
      rintro e w7 ⟨rfl, hb⟩
      have HQ := Lib.hid (D6.out _ hb).2.2.2.2.2.2.2
      clear hb
      go_wp2
      go_ret
      exact ⟨rfl, by rw [HB0.out]; exact HQ.out⟩
    · go_wp2_with fail
      refine (CA.out _).mono ?_
      rintro e w7 ⟨rfl, hb⟩
      have HQ := Lib.hid (D6.out _ hb).2.2.2.2.2.2.2
      clear hb
      go_wp2
      go_ret
      exact ⟨rfl, by rw [HB0.out]; exact HQ.out⟩
    · go_wp2_with fail
      refine (CA.out _).mono ?_
      rintro e w7 ⟨rfl, hb⟩
      have HQ := Lib.hid (D6.out _ hb).2.2.2.2.2.2.2
      clear hb
      go_wp2
      go_ret
      exact ⟨rfl, by rw [HB0.out]; exact HQ.out⟩
    · go_wp2_with fail
      refine (CA.out _).mono ?_
      rintro e w7 ⟨rfl, hb⟩
      have HQ := Lib.hid (D6.out _ hb).2.2.2.2.2.2.2
      clear hb
      go_wp2
      go_ret
      exact ⟨rfl, by rw [HB0.out]; exact HQ.out⟩

end Go.Proofs.Ytbfanbaijombaaa
