/- QDg: joined of St10, Wv0, Of2, RfO, RSb, Bv. -/
import Derived.Test.YtbdabdjpgmnejaaGreatQDe
import Derived.Test.YtbdabdjpgmnejaaGreatQDf
import Derived.Test.YtbdabdjpgmnejaaGreatQBm
import Derived.Test.YtbdabdjpgmnejaaGreatQBn
import Derived.Test.YtbdabdjpgmnejaaGreatQBf
import Derived.Test.YtbdabdjpgmnejaaGreatQBh
/- Contracts of the document's answer for clauses: over, Stand, Compare. -/
namespace Go.Proofs.YtbdabdjpgmnejaaGreat
set_option linter.unusedVariables false
set_option linter.unusedSimpArgs false
open Go.RowKit

def ovL (g : Sg) (x y : List Lt3) : Bool := y.all fun u => x.any fun t => decide (standL g t u = 1)
def OcI (g : Sg) (x y : List LV) (w1 : World) (i : Value) (wr : World) : Prop := ∃ k : Nat, k ≤ y.length ∧ i = .int .i64 k ∧ ovL g (t3s x) (t3s y) = ovL g (t3s x) (t3s (y.drop k)) ∧ Below w1.heap.size w1 wr
def OcJ (g : Sg) (x : List LV) (u : Lt3) (w1 : World) (av j : Value) (wr : World) : Prop := ∃ k : Nat, k ≤ x.length ∧ j = .int .i64 k ∧ av = .bool ((t3s (x.take k)).any fun t => decide (standL g t u = 1)) ∧ Below w1.heap.size w1 wr
theorem anyL_snoc {x : List LV} {k : Nat} {t : LV} (h : x[k]? = some t) (f : Lt3 → Bool) : (t3s (x.take (k + 1))).any f = ((t3s (x.take k)).any f || f t.t3) := by
  rw [List.take_add_one, h]; simp
theorem ovL_step {g : Sg} {x y : List LV} {k : Nat} {u : LV} (h : y[k]? = some u) : ovL g (t3s x) (t3s (y.drop k)) = (((t3s x).any fun t => decide (standL g t u.t3 = 1)) && ovL g (t3s x) (t3s (y.drop (k + 1)))) := by
  obtain ⟨hkl, hke⟩ := List.getElem?_eq_some_iff.1 h
  rw [List.drop_eq_getElem_cons hkl, hke]; rfl

set_option maxRecDepth 100000 in
set_option maxHeartbeats 4000000 in
theorem over10_any (g : Sg) (x y : List LV) (hx : ∀ t ∈ x, errL g t.l t.r = 0) (hy : ∀ t ∈ y, errL g t.l t.r = 0) (hsx : ∀ t ∈ x, t.sz) (hsy : ∀ t ∈ y, t.sz) (n₀ : Nat) (ga : Option Addr) (gc : Nat) (pa : Option Addr) (ca : Nat) (pb : Option Addr) (cb : Nat) (w : World) (hn : n₀ ≤ w.heap.size) (hG : IsSg n₀ w g ga gc) (hA : IsCl n₀ w x pa ca) (hB : IsCl n₀ w y pb cb) :
    Calls Tryz.prog 60 #[.slice ga g.length gc, .slice pa x.length ca, .slice pb y.length cb] w fun e w' => e = .returned (.bool (overL g (t3s x) (t3s y))) ∧ Below w.heap.size w w' := by
  have HG := Lib.hid (hG.mono hn)
  have HA := Lib.hid (hA.mono hn)
  have HB := Lib.hid (hB.mono hn)
  have hla1 := hA.1
  have hla2 := hA.2.1
  have hlb1 := hB.1
  have hlb2 := hB.2.1
  unfold maxLen at hla2 hlb2
  have HX := Lib.hid (And.intro hx hsx)
  have HY := Lib.hid (And.intro hy hsy)
  have HOV := Lib.hid (show overL g (t3s x) (t3s y) = (decide (x ≠ []) && ovL g (t3s x) (t3s y)) from by unfold overL ovL; congr 1; simp)
  clear hG hA hB hx hy hsx hsy
  go_enter Tryz.func60, Tryz.ntmps60
  go_wp2
  go_loopw [7] (fun i wr => OcI g x y w i wr) (fun i _ => y.length - (intOf i).toNat)
  case atStart => exact ⟨0, Nat.zero_le _, rfl, rfl, Below.refl _ _⟩
  case round =>
    obtain ⟨k, hk, rfl, hov, hBl⟩ := hrel
    have HBo := Lib.hid hBl
    have hnz := hBl.size
    have HOK := Lib.hid hov
    clear hBl hov
    by_cases hlt : k < y.length
    · obtain ⟨b1, o1, u, rfl, hb1, hu, a5, hul⟩ := (HB.out.below HBo.out).elem (i := k) hlt
      have hk0 : (0 : Int) ≤ (k : Int) := Int.natCast_nonneg _
      have hk1 : (k : Int) < (y.length : Int) := by omega
      have HU := Lib.hid (And.intro hu hul)
      have huy := HY.out.1 u (List.mem_of_getElem? hu)
      have hus := HY.out.2 u (List.mem_of_getElem? hu)
      have HA5 := Lib.hid a5
      have HST := Lib.hid (ovL_step (g := g) (x := x) hu)
      have HUE := Lib.hid huy
      have hb1w : b1 < wr.heap.size := by omega
      clear hu hul a5 huy
      obtain ⟨wo, rfl⟩ : ∃ wo, wo = wr := ⟨_, rfl⟩
      go_wp2
      go_loopw [8, 9] (fun av jv W' => OcJ g x u.t3 wo av jv W') (fun av jv _ => x.length - (intOf jv).toNat)
      case atStart => exact ⟨0, Nat.zero_le _, rfl, rfl, Below.refl _ _⟩
      case round =>
        obtain ⟨j, hj, rfl, rfl, hB2⟩ := hrel
        have HB2 := Lib.hid hB2
        have hB2z := hB2.size
        obtain ⟨u0, u1, u2, u3, u4⟩ := HA5.out.keep (fun i => hB2.cell (p := ⟨b1, i, none⟩) hb1w)
        clear hB2
        have hj0 : (0 : Int) ≤ (j : Int) := Int.natCast_nonneg _
        by_cases hjb : j < x.length
        · have hj1 : (j : Int) < (x.length : Int) := by omega
          obtain ⟨b2, o2, t, rfl, hb2, ht, ⟨t0, t1, t2, t3, t4⟩, htl⟩ := (HA.out.below (HBo.out.trans (HB2.out.mono hnz))).elem (i := j) hjb
          have htx := HX.out.1 t (List.mem_of_getElem? ht)
          have hts := HX.out.2 t (List.mem_of_getElem? ht)
          have HSN := Lib.hid (anyL_snoc ht (fun t => decide (standL g t u.t3 = 1)))
          have hb2w : b2 < wr.heap.size := by omega
          have CS := Lib.hid (fun (W : World) (hW : Below wr.heap.size wr W) => rLitStand_any g t u hts hus htx HUE.out w.heap.size ga gc W (by have := hW.size; omega) ((HG.out.below (HBo.out.trans (HB2.out.mono hnz))).below (hW.mono (by omega))) (htl.below (hW.mono (by omega))) ((HU.out.2.below (HB2.out.mono hnz)).below (hW.mono (by omega))))
          clear ht htx htl
          obtain ⟨q, hq⟩ : ∃ q, ((t3s (x.take j)).any fun t => decide (standL g t u.t3 = 1)) = q := ⟨_, rfl⟩
          rw [hq] at HSN
          have HFIN := Lib.hid (fun (dq : Nat) (osq : Array Obj) => HB2.out.trans ((below_regrown wr dq osq).mono hB2z))
          cases q with
          | true =>
            rw [hq]
            clear hq CS u0 u1 u2 u3 u4 t0 t1 t2 t3 t4
            go_wp2
            refine wp_region_wq (by kernel_rfl) (by kernel_rfl) ?_
            repeat (first
              | (refine WQ.skip (by rfl) ?_; simp only [Act.put, List.setIfInBounds_toArray, List.set_cons_succ, List.set_cons_zero])
              | (apply WQ.two (by rfl); (intro w' hw'; obtain ⟨pq, rfl⟩ := hw'; go_simp; first | exact rfl); simp only [Act.put, List.setIfInBounds_toArray, List.set_cons_succ, List.set_cons_zero]))
            refine WQ.nil ?_
            intro _ hw'
            obtain ⟨⟨dq, osq⟩, hw''⟩ := hw'
            subst hw''
            go_wp2
            go_roundw
            case rel => exact ⟨j + 1, by omega, by go_num, by rw [HSN.out]; rfl, HFIN.out dq osq⟩
            case measure => simp [intOf]; omega
          | false =>
            rw [hq]
            clear hq
            obtain ⟨st, hst⟩ : ∃ st, rowsT g (rowL t.n t.l t.r) (rowL u.n u.l u.r) = st := ⟨_, rfl⟩
            have HST2 := Lib.hid (show standL g t.t3 u.t3 = st from hst)
            rw [hst] at CS
            clear hst
            have f0 := fun d os => cell_regrown u0 d os
            have f1 := fun d os => cell_regrown u1 d os
            have f2 := fun d os => cell_regrown u2 d os
            have f3 := fun d os => cell_regrown u3 d os
            have f4 := fun d os => cell_regrown u4 d os
            have g0 := fun d os => cell_regrown t0 d os
            have g1 := fun d os => cell_regrown t1 d os
            have g2 := fun d os => cell_regrown t2 d os
            have g3 := fun d os => cell_regrown t3 d os
            have g4 := fun d os => cell_regrown t4 d os
            clear u0 u1 u2 u3 u4 t0 t1 t2 t3 t4
            go_wp2
            refine wp_region_wq (by kernel_rfl) (by kernel_rfl) ?_
            repeat (first
              | (refine WQ.skip (by rfl) ?_; simp only [Act.put, List.setIfInBounds_toArray, List.set_cons_succ, List.set_cons_zero])
              | (apply WQ.two (by rfl); (intro w' hw'; obtain ⟨pq, rfl⟩ := hw'; go_simp; first | (with_reducible exact Calls.regrown_of (CS.out _ (below_regrown _ _ _))) | exact rfl); simp only [Act.put, List.setIfInBounds_toArray, List.set_cons_succ, List.set_cons_zero]))
            refine WQ.nil ?_
            intro _ hw'
            obtain ⟨⟨dq, osq⟩, hw''⟩ := hw'
            subst hw''
            go_wp2
            go_roundw
            case rel => exact ⟨j + 1, by omega, by go_num, by rw [HSN.out, HST2.out]; by_cases e : st = 1 <;> simp [e], HFIN.out dq osq⟩
            case measure => simp [intOf]; omega
        · obtain rfl : j = x.length := by omega
          rw [List.take_length]
          have HBE := Lib.hid (HBo.out.trans (HB2.out.mono hnz))
          clear u0 u1 u2 u3 u4
          cases hq : ((t3s x).any fun t => decide (standL g t u.t3 = 1)) with
          | true =>
            have HOK2 := Lib.hid (show ovL g (t3s x) (t3s y) = ovL g (t3s x) (t3s (y.drop (k + 1))) from by rw [HOK.out, HST.out, hq]; rfl)
            clear hq
            go_wp2
            go_roundw
            case rel => exact ⟨k + 1, by omega, by go_num, HOK2.out, HBE.out⟩
            case measure => simp [intOf]; omega
          | false =>
            have HNO := Lib.hid (show overL g (t3s x) (t3s y) = false from by rw [HOV.out, HOK.out, HST.out, hq]; simp)
            clear hq
            go_wp2
            go_ret
            exact ⟨by rw [HNO.out]; rfl, HBE.out⟩
    · obtain rfl : k = y.length := by omega
      have HE := Lib.hid (show overL g (t3s x) (t3s y) = decide (x ≠ []) from by rw [HOV.out, HOK.out, List.drop_of_length_le (Nat.le_refl _)]; simp [ovL])
      have HE2 := Lib.hid (show overL g (t3s x) (t3s y) = decide (0 < x.length) from by
        rw [HE.out]
        cases x <;> simp)
      go_wp2
      go_ret
      exact ⟨by rw [HE2.out]; first | rfl | simp, HBo.out⟩

/-! ### Two clauses -/
theorem wit_ok {g : Sg} {A B : List Lt3} (h : ∀ x ∈ A, errL g x.l x.r = 0) : ∀ x ∈ witL A B, errL g x.l x.r = 0 := fun x hx => h x (witL_sub A B x hx)
theorem t3s_mem {P : List LV} {D : List Lt3} (h : t3s P = D) {x : LV} (hx : x ∈ P) : x.t3 ∈ D := by
  subst h; exact List.mem_map.2 ⟨x, hx, rfl⟩
theorem t3s_sz {P A : List LV} {D : List Lt3} (h : t3s P = D) (hD : ∀ x ∈ D, x ∈ t3s A) (hA : ∀ x ∈ A, x.sz) : ∀ x ∈ P, x.sz := fun x hx => by
  obtain ⟨y, hy, e⟩ := List.mem_map.1 (hD _ (t3s_mem h hx))
  have := hA y hy
  have e1 : y.l = x.l := congrArg Lt3.l e
  have e2 : y.r = x.r := congrArg Lt3.r e
  exact ⟨e1 ▸ this.1, e2 ▸ this.2⟩
theorem wit_len {P : List LV} {a b : List Lt3} (h : t3s P = witL a b) : P.length = (witL a b).length := by rw [← h]; simp

set_option maxRecDepth 100000 in
set_option maxHeartbeats 4000000 in
theorem stand10_any (g : Sg) (A B : List LV) (hla : A.length ≤ 1000000) (hlb : B.length ≤ 1000000) (ha : ∀ x ∈ t3s A, errL g x.l x.r = 0) (hb : ∀ x ∈ t3s B, errL g x.l x.r = 0) (hsa : ∀ x ∈ A, x.sz) (hsb : ∀ x ∈ B, x.sz) (n₀ : Nat) (ga : Option Addr) (gc : Nat) (pa : Option Addr) (ca : Nat) (pb : Option Addr) (cb : Nat) (w : World) (hn : n₀ ≤ w.heap.size) (hG : IsSg n₀ w g ga gc) (hA : IsCl n₀ w A pa ca) (hB : IsCl n₀ w B pb cb) :
    Calls Tryz.prog 27 #[.slice ga g.length gc, .slice pa A.length ca, .slice pb B.length cb] w fun e w' => e = .returned (.int .i64 (stC g (t3s A) (t3s B))) ∧ Below w.heap.size w w' := by
  have HG := Lib.hid (hG.mono hn)
  have HA := Lib.hid (hA.mono hn)
  have HB := Lib.hid (hB.mono hn)
  clear hG hA hB
  go_enter Tryz.func27, Tryz.ntmps27
  go_wp2_with fail
  refine (without10_any A B hla hlb hsa hsb w.heap.size pa ca pb cb w (Nat.le_refl _) HA.out HB.out).mono ?_
  rintro e w2 ⟨X, px, cx, hX, rfl, hXc, hb2⟩
  have HX := Lib.hid hX
  have HXC := Lib.hid hXc
  have HB2 := Lib.hid hb2
  have hz2 := hb2.size
  clear hX hXc hb2
  go_wp2_with fail
  refine (without10_any B A hlb hla hsb hsa w.heap.size pb cb pa ca w2 hz2 (HB.out.below HB2.out) (HA.out.below HB2.out)).mono ?_
  rintro e w3 ⟨Y, py, cy, hY, rfl, hYc, hb3⟩
  have HY := Lib.hid hY
  have HYC := Lib.hid hYc
  have HB3 := Lib.hid (HB2.out.trans (hb3.mono hz2))
  have HXC3 := Lib.hid ((HXC.out.below hb3).mono hb3.size)
  clear hY hYc hb3
  have HLX := Lib.hid (wit_len HX.out)
  have HLY := Lib.hid (wit_len HY.out)
  have hlx : X.length ≤ 1000000 := by have := witL_length (t3s A) (t3s B); have := HLX.out; simp at *; omega
  have hly : Y.length ≤ 1000000 := by have := witL_length (t3s B) (t3s A); have := HLY.out; simp at *; omega
  have hox : ∀ t ∈ X, errL g t.l t.r = 0 := fun t ht => wit_ok ha _ (t3s_mem HX.out ht)
  have hoy : ∀ t ∈ Y, errL g t.l t.r = 0 := fun t ht => wit_ok hb _ (t3s_mem HY.out ht)
  have hsx : ∀ t ∈ X, t.sz := t3s_sz HX.out (fun x hx => witL_sub _ _ x hx) hsa
  have hsy : ∀ t ∈ Y, t.sz := t3s_sz HY.out (fun x hx => witL_sub _ _ x hx) hsb
  have HE := Lib.hid (show stC g (t3s A) (t3s B) = if X.length + Y.length = 0 then 0 else if overL g (t3s X) (t3s Y) then 1 else if overL g (t3s Y) (t3s X) then -1 else 2 from by
    unfold stC; rw [HX.out, HY.out, HLX.out, HLY.out])
  have C1 := Lib.hid (fun (W : World) (hW : Below w3.heap.size w3 W) => over10_any g X Y hox hoy hsx hsy W.heap.size ga gc px cx py cy W (Nat.le_refl _) ((HG.out.below (HB3.out.trans (hW.mono HB3.out.size))).mono (Nat.le_trans HB3.out.size hW.size)) ((HXC3.out.below hW).mono hW.size) ((HYC.out.below hW).mono hW.size))
  have C2 := Lib.hid (fun (W : World) (hW : Below w3.heap.size w3 W) => over10_any g Y X hoy hox hsy hsx W.heap.size ga gc py cy px cx W (Nat.le_refl _) ((HG.out.below (HB3.out.trans (hW.mono HB3.out.size))).mono (Nat.le_trans HB3.out.size hW.size)) ((HYC.out.below hW).mono hW.size) ((HXC3.out.below hW).mono hW.size))
  generalize overL g (t3s X) (t3s Y) = o1 at C1 HE
  generalize overL g (t3s Y) (t3s X) = o2 at C2 HE
  clear hox hoy hsx hsy HX HY HLX HLY HXC
  by_cases h0 : X.length + Y.length = 0
  · have HF := Lib.hid (show stC g (t3s A) (t3s B) = 0 from by rw [HE.out, if_pos h0])
    have h1 : X.length = 0 := by omega
    have h2 : Y.length = 0 := by omega
    rw [h1, h2]
    clear h0 h1 h2
    go_wp2
    go_ret
    exact ⟨by rw [HF.out]; rfl, HB3.out⟩
  · have HE2 := Lib.hid (show stC g (t3s A) (t3s B) = if o1 then 1 else if o2 then -1 else 2 from by rw [HE.out, if_neg h0])
    have h1 : ((X.length : Int) + (Y.length : Int) == 0) = false := by simp; omega
    clear h0
    go_wp2_with fail
    refine (C1.out w3 (Below.refl _ _)).mono ?_
    rintro e w4 ⟨rfl, hb4⟩
    have HB4 := Lib.hid (HB3.out.trans (hb4.mono HB3.out.size))
    have HW4 := Lib.hid hb4
    clear hb4
    cases o1 with
    | true =>
      go_wp2
      go_ret
      exact ⟨by rw [HE2.out]; rfl, HB4.out⟩
    | false =>
      go_wp2_with fail
      refine (C2.out w4 HW4.out).mono ?_
      rintro e w5 ⟨rfl, hb5⟩
      have HB5 := Lib.hid (HB4.out.trans (hb5.mono HB4.out.size))
      clear hb5
      cases o2 with
      | true =>
        go_wp2
        go_ret
        exact ⟨by rw [HE2.out]; rfl, HB5.out⟩
      | false =>
        go_wp2
        go_ret
        exact ⟨by rw [HE2.out]; rfl, HB5.out⟩

/-- What Compare of clauses answers: a number and an error. -/
def ccE (g : Sg) (c d : List Lt3) : Int := if errC g c = 0 then errC g d else errC g c
def ccR (g : Sg) (c d : List Lt3) : Int := if errC g c = 0 then (if errC g d = 0 then stC g c d else 0) else 0

set_option maxRecDepth 100000 in
set_option maxHeartbeats 4000000 in
theorem compare10_any (g : Sg) (A B : List LV) (hsa : ∀ x ∈ A, x.sz) (hsb : ∀ x ∈ B, x.sz) (n₀ : Nat) (ga : Option Addr) (gc : Nat) (pa : Option Addr) (ca : Nat) (pb : Option Addr) (cb : Nat) (w : World) (hn : n₀ ≤ w.heap.size) (hG : IsSg n₀ w g ga gc) (hA : IsCl n₀ w A pa ca) (hB : IsCl n₀ w B pb cb) :
    Calls Tryz.prog 8 #[.slice ga g.length gc, .slice pa A.length ca, .slice pb B.length cb] w fun e w' => e = .returned (.tuple #[.int .i64 (ccR g (t3s A) (t3s B)), .int .i64 (ccE g (t3s A) (t3s B))]) ∧ Below w.heap.size w w' := by
  have HG := Lib.hid (hG.mono hn)
  have HA := Lib.hid (hA.mono hn)
  have HB := Lib.hid (hB.mono hn)
  clear hG hA hB
  go_enter Tryz.func8, Tryz.ntmps8
  go_wp2_with fail
  refine (check10_any g A hsa w.heap.size ga gc pa ca w (Nat.le_refl _) HG.out HA.out).mono ?_
  rintro e w2 ⟨rfl, hb2⟩
  have HB2 := Lib.hid hb2
  have hz2 := hb2.size
  clear hb2
  by_cases h1 : errC g (t3s A) = 0
  case neg =>
    obtain ⟨k, hk⟩ : ∃ k, errC g (t3s A) = k := ⟨_, rfl⟩
    have HE := Lib.hid (show ccR g (t3s A) (t3s B) = 0 ∧ ccE g (t3s A) (t3s B) = k from ⟨by unfold ccR; rw [if_neg h1], by unfold ccE; rw [if_neg h1, hk]⟩)
    rw [hk] at h1 ⊢
    have h2 : (k != 0) = true := by simpa using h1
    clear h1 hk
    go_wp2
    refine bodyPost_ret (v := .tuple #[.int .i64 0, .int .i64 k]) (by simp [results, Tryz.results8, go_sem]) rfl ?_
    exact ⟨by rw [HE.out.1, HE.out.2], HB2.out⟩
  have H1 := Lib.hid h1
  rw [h1]
  clear h1
  go_wp2_with fail
  refine (check10_any g B hsb w.heap.size ga gc pb cb w2 hz2 (HG.out.below HB2.out) (HB.out.below HB2.out)).mono ?_
  rintro e w3 ⟨rfl, hb3⟩
  have HB3 := Lib.hid (HB2.out.trans (hb3.mono hz2))
  have hz3 : w.heap.size ≤ w3.heap.size := Nat.le_trans hz2 hb3.size
  clear hb3
  by_cases h2 : errC g (t3s B) = 0
  case neg =>
    obtain ⟨k, hk⟩ : ∃ k, errC g (t3s B) = k := ⟨_, rfl⟩
    have HE := Lib.hid (show ccR g (t3s A) (t3s B) = 0 ∧ ccE g (t3s A) (t3s B) = k from ⟨by unfold ccR; rw [if_pos H1.out, if_neg h2], by unfold ccE; rw [if_pos H1.out, hk]⟩)
    rw [hk] at h2 ⊢
    have h3 : (k != 0) = true := by simpa using h2
    clear h2 hk
    go_wp2
    refine bodyPost_ret (v := .tuple #[.int .i64 0, .int .i64 k]) (by simp [results, Tryz.results8, go_sem]) rfl ?_
    exact ⟨by rw [HE.out.1, HE.out.2], HB3.out⟩
  have HE := Lib.hid (show ccR g (t3s A) (t3s B) = stC g (t3s A) (t3s B) ∧ ccE g (t3s A) (t3s B) = 0 from ⟨by unfold ccR; rw [if_pos H1.out, if_pos h2], by unfold ccE; rw [if_pos H1.out, h2]⟩)
  obtain ⟨_, hla, hoa⟩ := errC_ok H1.out
  obtain ⟨_, hlb, hob⟩ := errC_ok h2
  have CS := Lib.hid (stand10_any g A B (by simp at hla; omega) (by simp at hlb; omega) hoa hob hsa hsb w.heap.size ga gc pa ca pb cb w3 hz3 (HG.out.below HB3.out) (HA.out.below HB3.out) (HB.out.below HB3.out))
  rw [h2]
  clear h2 hla hlb hoa hob
  go_wp2_with fail
  refine CS.out.mono ?_
  rintro e w4 ⟨rfl, hb4⟩
  have HB4 := Lib.hid (HB3.out.trans (hb4.mono hz3))
  clear hb4
  generalize stC g (t3s A) (t3s B) = st at HE ⊢
  go_wp2
  refine bodyPost_ret (v := .tuple #[.int .i64 st, .int .i64 0]) (by simp [results, Tryz.results8, go_sem]) rfl ?_
  exact ⟨by rw [HE.out.1, HE.out.2], HB4.out⟩

end Go.Proofs.YtbdabdjpgmnejaaGreat

/- Wv0: split off SO0. -/
namespace Go.Proofs.YtbdabdjpgmnejaaGreat
set_option linter.unusedVariables false
set_option linter.unusedSimpArgs false
open Go.RowKit

theorem wf_vt {v : Int} (h1 : -9223372036854775808 ≤ v) (h2 : v ≤ 9223372036854775807) : (Lit.int .i64 (vt v).head).wf = true :=
  WalkArith.wf_i64 ⟨by show -9223372036854775808 ≤ -1 - v; omega, by show -1 - v ≤ 9223372036854775807; omega⟩
end Go.Proofs.YtbdabdjpgmnejaaGreat

/- Of2: split off SO0. -/
namespace Go.Proofs.YtbdabdjpgmnejaaGreat
set_option linter.unusedVariables false
set_option linter.unusedSimpArgs false
open Go.RowKit

def OfPost (n₀ : Nat) (x : T) (w : World) (e : Ending) (w' : World) : Prop :=
  ∃ a c, e = .returned (tm x.head a x.args.length c) ∧ (Lit.int .i64 x.head).wf = true ∧ IsArgs n₀ w' x.args a c ∧ Below w.heap.size w w'
def OfI (s : Sb) (v : Int) (w w1 : World) (i : Value) (wr : World) : Prop := ∃ k : Nat, k ≤ s.length ∧ i = .int .i64 k ∧ ofS s v = ofS (s.drop k) v ∧ Below (w.heap.size + 1) w1 wr

end Go.Proofs.YtbdabdjpgmnejaaGreat

/- RfO: split off SOf. -/
namespace Go.Proofs.YtbdabdjpgmnejaaGreat
set_option linter.unusedVariables false
set_option linter.unusedSimpArgs false
open Go.RowKit

set_option maxRecDepth 100000 in
set_option maxHeartbeats 1000000 in
theorem refOf_any (s : Sb) (v : Int) (n₀ : Nat) (a : Option Addr) (c : Nat) (w : World) (hn : n₀ ≤ w.heap.size) (h1 : -9223372036854775808 ≤ v) (h2 : v ≤ 9223372036854775807) (hS : IsBs n₀ w s a c) :
    Calls Tryz.prog 134 #[.slice a s.length c, .int .i64 v] w (OfPost n₀ (ofS s v) w) := by
  have hl : s.length ≤ c ∧ c ≤ maxLen := ⟨hS.1, hS.2.1⟩
  unfold maxLen at hl
  obtain ⟨hl1, hl2⟩ := hl
  have HS := Lib.hid hS
  clear hS
  go_enter Tryz.func134, Tryz.ntmps134
  go_wp2
  obtain ⟨w1, hw1⟩ : ∃ w1, w.alloc (tmCells 0 none 0 0) = w1 := ⟨_, rfl⟩
  have hB1 : Below w.heap.size w w1 := by rw [← hw1]; exact (Below.refl _ w).alloc (Nat.le_refl _) _
  have hs1 : w1.heap.size = w.heap.size + 1 := by rw [← hw1]; simp
  have hres : ∀ W, Below (w.heap.size + 1) w1 W → W.cell? ⟨w.heap.size, 0, none⟩ = some (.int .i64 0) ∧ W.cell? ⟨w.heap.size, 1, none⟩ = some (.slice none 0 0) ∧ W.frozen? ⟨w.heap.size, 0, none⟩ = false ∧ W.frozen? ⟨w.heap.size, 1, none⟩ = false := fun W hW =>
    ⟨(hW.cell (p := ⟨w.heap.size, 0, none⟩) (by simp)).trans (by rw [← hw1]; simp [go_sem]), (hW.cell (p := ⟨w.heap.size, 1, none⟩) (by simp)).trans (by rw [← hw1]; simp [go_sem]), (hW.frozen (p := ⟨w.heap.size, 0, none⟩) (by simp)).trans (by rw [← hw1]; simp [go_sem]), (hW.frozen (p := ⟨w.heap.size, 1, none⟩) (by simp)).trans (by rw [← hw1]; simp [go_sem])⟩
  rw [hw1]
  have HRES := Lib.hid hres
  have HB1 := Lib.hid hB1
  have HS1 := Lib.hid hs1
  clear hres hB1 hs1 hw1
  go_loopw [5] (fun i wr => OfI s v w w1 i wr) (fun i _ => s.length - (intOf i).toNat)
  case atStart => exact ⟨0, Nat.zero_le _, rfl, rfl, Below.refl _ _⟩
  case round =>
    obtain ⟨k, hk, rfl, hof, hB⟩ := hrel
    obtain ⟨r0, r1, rf0, rf1⟩ := HRES.out wr hB
    have hz : w.heap.size + 1 ≤ wr.heap.size := by have := hB.size; have := HS1.out; omega
    have HO := Lib.hid hof
    have HB := Lib.hid hB
    have HW := Lib.hid (HB1.out.trans (hB.mono (by omega)))
    clear hof hB
    by_cases hlt : k < s.length
    · obtain ⟨b, o, x, t, a', c', rfl, hbn, hsk, hxw, htw, hc0, hc1, hc2, hA'⟩ := (HS.out.below (HW.out.mono hn)).elem (i := k) hlt
      have hk0 : (0 : Int) ≤ (k : Int) := Int.natCast_nonneg _
      have hk1 : (k : Int) < (s.length : Int) := by omega
      have HSK := Lib.hid (ofS_step v hsk)
      have HTW := Lib.hid htw
      have HA' := Lib.hid hA'
      have hbw : b < wr.heap.size := by omega
      have hzw : w.heap.size < wr.heap.size := by omega
      clear hsk htw hxw hA'
      by_cases hv : x = v
      · subst hv
        have hof : ofS s x = t := by rw [HO.out, HSK.out]; simp
        go_wp2
        refine bodyPost_ret (v := tm t.head a' t.args.length c') (by simp [results, Tryz.results134, go_sem, r0, r1, hzw]) rfl ?_
        first | rw [hof] | skip
        exact ⟨a', c', rfl, HTW.out, HA'.out.below (((Below.refl n₀ wr).setCell (p := ⟨w.heap.size, 0, none⟩) hn _).setCell (p := ⟨w.heap.size, 1, none⟩) hn _), ((HW.out.setCell (p := ⟨w.heap.size, 0, none⟩) (by simp) _).setCell (p := ⟨w.heap.size, 1, none⟩) (by simp) _)⟩
      · have hv1 : (x == v) = false := by simpa using hv
        go_wp2
        go_roundw
        case rel =>
          refine ⟨k + 1, by omega, by go_num, ?_, HB.out⟩
          rw [HO.out, HSK.out, if_neg hv]
        case measure => simp [intOf]; omega
    · have hof : ofS s v = vt v := by rw [HO.out, List.drop_of_length_le (by omega)]; rfl
      go_wp2_with fail
      refine (refVar_any v wr h1 h2).mono ?_
      rintro e w2 ⟨rfl, hb2⟩
      obtain ⟨r0', r1', rf0', rf1'⟩ := HRES.out w2 (HB.out.trans (hb2.mono (by omega)))
      have HB2 := Lib.hid (HW.out.trans (hb2.mono (by omega)))
      clear hb2 r0 r1 rf0 rf1
      go_wp2
      refine bodyPost_ret (v := tm (-1 - v) none 0 0) (by simp [results, Tryz.results134, go_sem, r0', r1']) rfl ?_
      rw [hof]
      refine ⟨none, 0, rfl, wf_vt h1 h2, ⟨by simp [vt, T.args], by simp [maxLen], .inl rfl⟩, ?_⟩
      exact (HB2.out.setCell (p := ⟨w.heap.size, 0, none⟩) (by simp) _).setCell (p := ⟨w.heap.size, 1, none⟩) (by simp) _

end Go.Proofs.YtbdabdjpgmnejaaGreat

/- Contract of the reference's Put (a term with all put). -/
namespace Go.Proofs.YtbdabdjpgmnejaaGreat
set_option linter.unusedVariables false
set_option linter.unusedSimpArgs false
open Go.RowKit

def okS3 (n₀ : Nat) (w : World) (v : Value) (wr : World) (b : Nat) : Prop := b < n₀ ∨ (w.heap.size + 3 ≤ b ∧ b < wr.heap.size ∧ v.ownBlock ≠ some b)
def SubI (h : Int) (ts : List T) (n₀ : Nat) (w w3 : World) (i : Value) (wr : World) : Prop :=
  ∃ (k : Nat) (v : Value) (xs : List Value), k ≤ ts.length ∧ i = .int .i64 k ∧ wr.heap[w.heap.size + 2]? = some (.cells #[.int .i64 h, v] 34 (0, 0)) ∧
    wr.ownsRow (w.heap.size + 3) 34 2 v k xs ∧ RowVals (okS3 n₀ w v wr) wr (ts.take k) xs ∧ Below (w.heap.size + 2) w3 wr

theorem sub_step {h : Int} {ts : List T} {n₀ : Nat} {s : T} {w w3 wr w4 w5 : World} {k : Nat} {v : Value} {xs : List Value} {a2 : Option Addr} {c2 g5 cap5 : Nat} {ob : Obj} (hn : n₀ ≤ w.heap.size) (hs : ts[k]? = some s) (hsw : (Lit.int .i64 s.head).wf = true)
    (hout : wr.heap[w.heap.size + 2]? = some (.cells #[.int .i64 h, v] 34 (0, 0))) (hown : wr.ownsRow (w.heap.size + 3) 34 2 v k xs) (hrv : RowVals (okS3 n₀ w v wr) wr (ts.take k) xs)
    (hB : Below (w.heap.size + 2) w3 wr) (hz : w.heap.size + 3 ≤ wr.heap.size) (hI4 : IsArgsp (fun b => b < n₀ ∨ wr.heap.size ≤ b ∧ b < w4.heap.size) w4 s.args a2 c2) (hB4 : Below wr.heap.size wr w4)
    (hown5 : w5.ownsRow (w.heap.size + 3) 34 2 (.slice (some ⟨g5, 0, none⟩) (k + 1) cap5) (k + 1) (xs ++ [.int .i64 s.head, .slice a2 s.args.length c2])) (hgrow5 : (w4.alloc ob).grownBy w5 v.ownBlock)
    (hat5 : v.ownBlock = some g5 ∨ g5 = w4.heap.size + 1) :
    SubI h ts n₀ w w3 (.int .i64 ((k + 1 : Nat) : Int)) (w5.setCell ⟨w.heap.size + 2, 1, none⟩ (.slice (some ⟨g5, 0, none⟩) (k + 1) cap5)) := by
  obtain ⟨hk, hks⟩ := List.getElem?_eq_some_iff.1 hs
  have hz4 : wr.heap.size ≤ w4.heap.size := hB4.size
  have hz5 : w4.heap.size + 1 ≤ w5.heap.size := by have := hgrow5.size; simpa using this
  have hlt := hown.lt
  have hbk : ∀ b, b < w4.heap.size → v.ownBlock ≠ some b → b ≠ w.heap.size + 2 → (w5.setCell ⟨w.heap.size + 2, 1, none⟩ (.slice (some ⟨g5, 0, none⟩) (k + 1) cap5)).heap[b]? = w4.heap[b]? := fun b h1 h2 h3 =>
    (Below.heap_setCell _ _ _ _ h3).trans ((hgrow5.block b (by simp; omega) (fun e => h2 e.symm)).trans (Below.heap_alloc _ _ _ h1))
  have hg5 : ∀ b, b < w4.heap.size → v.ownBlock ≠ some b → g5 ≠ b := fun b h1 h2 e => by
    subst e
    rcases hat5 with h | h
    · exact h2 h
    · omega
  have hlow : ∀ b, b < n₀ → v.ownBlock ≠ some b := fun b hb e => by have := hlt _ e; omega
  refine ⟨k + 1, _, _, by omega, rfl, ?_, ownsRow_setCell_below hown5 (by simp) _, ?_, ?_⟩
  · have h5 : w5.heap[w.heap.size + 2]? = some (.cells #[.int .i64 h, v] 34 (0, 0)) :=
      ((hgrow5.block _ (by simp; omega) (fun e => by have := hlt _ e.symm; omega)).trans ((Below.heap_alloc _ _ _ (by omega)).trans (hB4.block _ (by omega)))).trans hout
    rw [heap_setCell_same h5]
    rfl
  · rw [List.take_succ_eq_append_getElem hk, hks]
    refine RowVals.snoc hsw (hI4.keep (fun b hb => ?_) (fun b hb => ?_)) (hrv.keep (fun b hb => ?_) (fun b hb => ?_))
    · rcases hb with hb | hb
      · exact hbk b (by omega) (hlow b hb) (by omega)
      · exact hbk b hb.2 (fun e => by have := hlt _ e; omega) (by omega)
    · rcases hb with hb | hb
      · exact .inl hb
      · exact .inr ⟨by omega, by show b < _; simp; omega, fun e => hg5 b hb.2 (fun e => by have := hlt _ e; omega) (by simpa [Value.ownBlock] using e)⟩
    · rcases hb with hb | hb
      · exact (hbk b (by omega) (hlow b hb) (by omega)).trans (hB4.block b (by omega))
      · exact (hbk b (by have := hb.2.1; omega) hb.2.2 (by have := hb.1; omega)).trans (hB4.block b hb.2.1)
    · rcases hb with hb | hb
      · exact .inl hb
      · exact .inr ⟨hb.1, by show b < _; have := hb.2.1; simp; omega, fun e => hg5 b (by have := hb.2.1; omega) hb.2.2 (by simpa [Value.ownBlock] using e)⟩
  · exact (hB.trans (((hB4.mono (by omega)).alloc (by omega) ob).grown hgrow5 (by simp; omega) (fun k hk => by have := hlt k hk; omega))).setCell (p := ⟨w.heap.size + 2, 1, none⟩) (by simp) _


set_option maxRecDepth 100000 in
set_option maxHeartbeats 4000000 in
theorem refSub_any (s : Sb) : ∀ (N : Nat) (t : T), t.size ≤ N → t.size ≤ 1000000000000 → ∀ (n₀ : Nat) (a : Option Addr) (c : Nat) (as_ : Option Addr) (cs : Nat) (w : World), n₀ ≤ w.heap.size → (Lit.int .i64 t.head).wf = true → IsArgs n₀ w t.args a c → IsBs n₀ w s as_ cs →
    Calls Tryz.prog 109 #[.slice as_ s.length cs, tm t.head a t.args.length c] w (RPutPost (t.sub (ofS s)) n₀ w) := by
  intro N
  induction N with
  | zero => intro t ht; have := T.size_pos t; omega
  | succ N ih =>
    intro t ht hbig n₀ a c as_ cs w hn hwf hA hS
    have IH := Lib.hid ih
    have HWF := Lib.hid hwf
    have hsz := T.size_eq t
    have hlz := T.sizes_ge_length t.args
    have hlc : t.args.length ≤ c ∧ c ≤ maxLen := ⟨hA.1, hA.2.1⟩
    unfold maxLen at hlc
    obtain ⟨hl1, hl2⟩ := hlc
    obtain ⟨hw1, hw2⟩ := wf_low hwf
    have HS := Lib.hid hsz
    have hlen : t.args.length ≤ 1000000000000 := by omega
    have HA := Lib.hid hA
    have HSB := Lib.hid hS
    clear ih hwf hA hsz hlz hS
    obtain ⟨w2, hw2'⟩ : ∃ w2, (w.alloc (tmCells t.head a t.args.length c)).alloc (tmCells 0 none 0 0) = w2 := ⟨_, rfl⟩
    have hB2 : Below w.heap.size w w2 := by rw [← hw2']; exact ((Below.refl _ w).alloc (Nat.le_refl _) _).alloc (by simp) _
    have hs2 : w2.heap.size = w.heap.size + 2 := by rw [← hw2']; simp
    have L2 := Lib.hid (show ∀ W, Below (w.heap.size + 2) w2 W → W.cell? ⟨w.heap.size, 0, none⟩ = some (.int .i64 t.head) ∧ W.cell? ⟨w.heap.size, 1, none⟩ = some (.slice a t.args.length c) ∧ W.cell? ⟨w.heap.size + 1, 0, none⟩ = some (.int .i64 0) ∧ W.cell? ⟨w.heap.size + 1, 1, none⟩ = some (.slice none 0 0) ∧ W.frozen? ⟨w.heap.size + 1, 0, none⟩ = false ∧ W.frozen? ⟨w.heap.size + 1, 1, none⟩ = false from fun W hW =>
      ⟨(hW.cell (p := ⟨w.heap.size, 0, none⟩) (by simp)).trans (by rw [← hw2']; simp [go_sem]), (hW.cell (p := ⟨w.heap.size, 1, none⟩) (by simp)).trans (by rw [← hw2']; simp [go_sem]), (hW.cell (p := ⟨w.heap.size + 1, 0, none⟩) (by simp)).trans (by rw [← hw2']; simp [go_sem]), (hW.cell (p := ⟨w.heap.size + 1, 1, none⟩) (by simp)).trans (by rw [← hw2']; simp [go_sem]), (hW.frozen (p := ⟨w.heap.size + 1, 0, none⟩) (by simp)).trans (by rw [← hw2']; simp [go_sem]), (hW.frozen (p := ⟨w.heap.size + 1, 1, none⟩) (by simp)).trans (by rw [← hw2']; simp [go_sem])⟩)
    have HB2 := Lib.hid hB2
    have HS2 := Lib.hid hs2
    clear hB2 hs2
    obtain ⟨c0, c1, r0, r1, rf0, rf1⟩ := L2.out w2 (Below.refl _ _)
    by_cases q : t.head < 0
    · have hsub := T.sub_neg (f := (ofS s)) q
      have CO := Lib.hid (refOf_any s (-1 - t.head) n₀ as_ cs w2 (by have := HS2.out; omega) (by omega) (by omega) (HSB.out.below (HB2.out.mono hn)))
      go_enter Tryz.func109, Tryz.ntmps109
      go_wp2_with fail
      refine CO.out.mono ?_
      rintro e w3 ⟨a3, c3, rfl, hw3, hA3, hb3⟩
      clear c0 c1 r0 r1 rf0 rf1 hw2'
      obtain ⟨c0, c1, r0, r1, rf0, rf1⟩ := L2.out w3 (by rw [← HS2.out]; exact hb3)
      generalize ofS s (-1 - t.head) = x at hsub hw3 hA3 ⊢
      have HW3 := Lib.hid hw3
      have HI3 := Lib.hid hA3
      have HB3 := Lib.hid (HB2.out.trans (hb3.mono HB2.out.size))
      clear hw3 hA3 hb3
      go_wp2
      refine bodyPost_ret (v := tm x.head a3 x.args.length c3) (by simp [results, Tryz.results109, go_sem, r0, r1]) rfl ?_
      first | rw [hsub] | skip
      refine ⟨a3, c3, rfl, HW3.out, (isArgsp_lt.2 HI3.out).keep (fun b hb => ?_) (fun b hb => .inl hb), (HB3.out.setCell (p := ⟨w.heap.size + 1, 0, none⟩) (by simp) _).setCell (p := ⟨w.heap.size + 1, 1, none⟩) (by simp) _⟩
      exact (Below.heap_setCell _ _ _ _ (by show b ≠ w.heap.size + 1; omega)).trans (Below.heap_setCell _ _ _ _ (by show b ≠ w.heap.size + 1; omega))
    · have HSUB := Lib.hid (T.sub_pos (f := (ofS s)) q)
      obtain ⟨i0, hi, hz0, hz1, hz2⟩ := info_parts infoTerm
      go_enter Tryz.func109, Tryz.ntmps109
      go_wp2
      obtain ⟨w3, hw3⟩ : ∃ w3, w2.alloc (tmCells t.head none 0 0) = w3 := ⟨_, rfl⟩
      have hB3 : Below w.heap.size w w3 := by rw [← hw3]; exact HB2.out.alloc HB2.out.size _
      have hs3 : w3.heap.size = w.heap.size + 3 := by rw [← hw3]; have := HS2.out; simp; omega
      have hb23 : Below (w.heap.size + 2) w2 w3 := by rw [← hw3]; exact (Below.refl _ _).alloc (by have := HS2.out; omega) _
      have hout : w3.heap[w.heap.size + 2]? = some (.cells #[.int .i64 t.head, .slice none 0 0] 34 (0, 0)) := by
        rw [← hw3, ← HS2.out]
        exact heap_alloc_new w2 (tmCells t.head none 0 0)
      have HB3 := Lib.hid hB3
      have HS3 := Lib.hid hs3
      have HOUT := Lib.hid hout
      have H23 := Lib.hid hb23
      have hsz2 := HS2.out
      rw [hw3, hsz2]
      obtain ⟨ts', hts⟩ : ∃ ts', t.args.map (T.sub (ofS s)) = ts' := ⟨_, rfl⟩
      have hll : ts'.length = t.args.length := by rw [← hts]; simp
      have HTS := Lib.hid (show ∀ (k : Nat) (x : T), t.args[k]? = some x → ts'[k]? = some (x.sub (ofS s)) from fun k x h => by rw [← hts, List.getElem?_map, h]; rfl)
      have HTE := Lib.hid hts
      clear hw3 hB3 hs3 hout hb23 hts hw2' c0 c1 r0 r1 rf0 rf1 hsz2
      go_loopw [6] (fun i wr => SubI t.head ts' n₀ w w3 i wr) (fun i _ => t.args.length - (intOf i).toNat)
      case atStart => exact ⟨0, _, [], Nat.zero_le _, rfl, HOUT.out, World.ownsRow_nil _ _ _ _, trivial, Below.refl _ _⟩
      case round =>
        obtain ⟨k, v, xs, hk, rfl, hout, hown, hrv, hB⟩ := hrel
        rw [hll] at hk
        have hz : w.heap.size + 3 ≤ wr.heap.size := by have := hB.size; have := HS3.out; omega
        have hw : Below w.heap.size w wr := HB3.out.trans (hB.mono (by omega))
        have h2w : Below (w.heap.size + 2) w2 wr := H23.out.trans hB
        obtain ⟨c0, c1, r0, r1, rf0, rf1⟩ := L2.out wr h2w
        have ho0 : wr.cell? ⟨w.heap.size + 2, 0, none⟩ = some (.int .i64 t.head) := by simp [World.cell?, hout]
        have ho1 : wr.cell? ⟨w.heap.size + 2, 1, none⟩ = some v := by simp [World.cell?, hout]
        have hf1 : wr.frozen? ⟨w.heap.size + 2, 1, none⟩ = false := by simp [World.frozen?, hout]
        have HO := Lib.hid hown
        have HR := Lib.hid hrv
        have HW := Lib.hid hw
        have HBL := Lib.hid hB
        have HOUT' := Lib.hid hout
        clear hown hrv hw hB hout HOUT h2w
        by_cases hlt : k < t.args.length
        · obtain ⟨b, o, s_, a', c', rfl, hbn, hs, hswf, hc1, hc2, hA'⟩ := (HA.out.below (HW.out.mono hn)).elem (i := k) hlt
          have hsN : s_.size ≤ N := by have := T.size_lt_of_mem hs; have := HS.out; omega
          have hsb : s_.size ≤ 1000000000000 := by have := T.size_lt_of_mem hs; have := HS.out; omega
          have hbw : b < wr.heap.size := by omega
          have HA' := Lib.hid hA'
          have HSW := Lib.hid hswf
          have hk0 : (0 : Int) ≤ (k : Int) := Int.natCast_nonneg _
          have hk1 : (k : Int) < (t.args.length : Int) := by omega
          have hoB : w.heap.size + 2 < wr.heap.size := by omega
          have hxB : w.heap.size < wr.heap.size := by omega
          have hk2 : k + 1 ≤ maxLen := by unfold maxLen; omega
          have cc : Calls Tryz.prog 109 #[.slice as_ s.length cs, tm s_.head a' s_.args.length c'] wr.drew (RPutPost (s_.sub (ofS s)) n₀ wr.drew) := IH.out s_ hsN hsb n₀ a' c' as_ cs wr.drew (by show n₀ ≤ wr.heap.size; omega) HSW.out (HA'.out.below (Below.refl _ _).drew) ((HSB.out.below (HW.out.mono hn)).below (Below.refl _ _).drew)
          obtain ⟨y, hy⟩ : ∃ y, s_.sub (ofS s) = y := ⟨_, rfl⟩
          have HTY := Lib.hid (hy ▸ HTS.out k s_ hs)
          rw [hy] at cc
          have CC := Lib.hid cc
          clear cc hs hA' hswf hy r0 r1 rf0 rf1
          go_wp2
          go_region_law (first
              | (refine step_append_lies _ (by rfl) _ _ _ (by rfl) (w.heap.size + 3) 34 i0 _ 2 32 Tryz.underlying32 hi hz0 hz1 hz2 rfl (by omega) v k xs (by rfl) ((ownsRow_later HO.out hB4w).alloc _)
                  ⟨w4.heap.size, 0, none⟩ 1 1 [.int .i64 y.head, .slice a2 y.args.length c2] (by rfl) (by rfl) (World.news_of_block (cs := #[.int .i64 y.head, .slice a2 y.args.length c2]) (t := 34) (fr := (0, 0)) (heap_alloc_new w4 _)) (by simp [Value.oneCell'])
                  (by omega) hk2 (by omega) (by simp; omega) (w4.heap.size + 1) (by simp) ?_; intro g5 cap5 w5 hown5 hgrow5 hat5 hlt5; have hB5x : Below (w.heap.size + 3) wr w5 := ((hB4w.mono hz).alloc hz4 _).grown hgrow5 (by simp; omega) (fun k hk => (HO.out.lt k hk).1); have ho5 := (hB5x.cell (p := ⟨w.heap.size + 2, 1, none⟩) (by simp)).trans ho1; have hf5 := (hB5x.frozen (p := ⟨w.heap.size + 2, 1, none⟩) (by simp)).trans hf1)
              | (go_simp; go_at_call 109; refine CC.out.mono ?_; rintro e w4 ⟨a2, c2, rfl, hwf4, hI4, hb4⟩; have hB4w : Below wr.heap.size wr w4 := ⟨hb4.os, hb4.tape, hb4.output, hb4.size, hb4.block⟩; have hz4 : w.heap.size + 3 ≤ w4.heap.size := Nat.le_trans hz hB4w.size; have ho4 := (hB4w.cell (p := ⟨w.heap.size + 2, 1, none⟩) (by simp; omega)).trans ho1; have ho4' : ∀ ob, (w4.alloc ob).cell? ⟨w.heap.size + 2, 1, none⟩ = some v := fun ob => (World.cell?_of_block (a := ⟨w.heap.size + 2, 1, none⟩) (Below.heap_alloc w4 ob _ (by simp; omega))).trans ho4))
          all_goals
            go_wp2
            go_roundw
            case rel => exact sub_step hn HTY.out hwf4 HOUT'.out HO.out HR.out HBL.out hz hI4 hB4w hown5 hgrow5 hat5
            case measure => simp [intOf]; omega
        · obtain rfl : k = t.args.length := by omega
          have hr := HR.out
          rw [← hll, List.take_length] at hr
          have ho := HO.out
          rw [← hll] at ho
          obtain ⟨a2, c2, rfl, hI⟩ := argsp_of_owns (ok' := fun b => b ≠ w.heap.size + 1 ∧ (b < n₀ ∨ w.heap.size ≤ b ∧ b < wr.heap.size)) ho hr (fun b hb => by
            rcases hb with hb | hb
            · exact ⟨by omega, .inl hb⟩
            · exact ⟨by have := hb.1; omega, .inr ⟨by have := hb.1; omega, hb.2.1⟩⟩) (fun g hg => by have := ho.lt g hg; exact ⟨by omega, .inr ⟨by omega, by omega⟩⟩)
          have HI := Lib.hid hI
          clear hI hr ho
          go_wp2
          refine bodyPost_ret (v := tm t.head a2 ts'.length c2) (by simp [results, Tryz.results109, go_sem, r0, r1, hll]) rfl ?_
          rw [HSUB.out, HTE.out]
          refine ⟨a2, c2, rfl, HWF.out, HI.out.keep (fun b hb => (Below.heap_setCell _ _ _ _ (by simpa using hb.1)).trans (Below.heap_setCell _ _ _ _ (by simpa using hb.1))) (fun b hb => by simpa using hb.2), ?_⟩
          exact (HW.out.setCell (p := ⟨w.heap.size + 1, 0, none⟩) (by simp) _).setCell (p := ⟨w.heap.size + 1, 1, none⟩) (by simp) _

end Go.Proofs.YtbdabdjpgmnejaaGreat

/- Rows of bindings of one's own: their cells, and what they become when one is appended. -/
namespace Go.Proofs.YtbdabdjpgmnejaaGreat
set_option linter.unusedVariables false
set_option linter.unusedSimpArgs false
open Go.RowKit

theorem infoBind : (Tryz.prog.info? 124).map (fun i => (i.zero, i.size, i.bytes)) = some (some (.agg #[.int .i64 0, .int .i64 0, .slice none 0 0]), 3, 40) := by kernel_rfl

/-- The cells xs are those of the bindings s, one behind the other. -/
def BVals (ok : Nat → Prop) (w : World) : Sb → List Value → Prop
  | [], [] => True
  | (x, t) :: s, v :: h :: l :: xs => (Lit.int .i64 x).wf = true ∧ v = .int .i64 x ∧ (Lit.int .i64 t.head).wf = true ∧ h = .int .i64 t.head ∧ (∃ a c, l = .slice a t.args.length c ∧ IsArgsp ok w t.args a c) ∧ BVals ok w s xs
  | _, _ => False
theorem BVals.keep {ok ok' : Nat → Prop} {w w' : World} (h : ∀ b, ok b → w'.heap[b]? = w.heap[b]?) (hm : ∀ b, ok b → ok' b) : ∀ {s : Sb} {xs : List Value}, BVals ok w s xs → BVals ok' w' s xs
  | [], [], _ => trivial
  | (_, _) :: _, _ :: _ :: _ :: _, ⟨h1, h2, h3, h4, ⟨a, c, h5, h6⟩, h7⟩ => ⟨h1, h2, h3, h4, ⟨a, c, h5, h6.keep h hm⟩, BVals.keep h hm h7⟩
  | [], _ :: _, h => h.elim
  | (_, _) :: _, [], h => h.elim
  | (_, _) :: _, [_], h => h.elim
  | (_, _) :: _, [_, _], h => h.elim
theorem BVals.snoc {ok : Nat → Prop} {w : World} {x : Int} {t : T} {a : Option Addr} {c : Nat} (h0 : (Lit.int .i64 x).wf = true) (h1 : (Lit.int .i64 t.head).wf = true) (h4 : IsArgsp ok w t.args a c) : ∀ {s : Sb} {xs : List Value}, BVals ok w s xs → BVals ok w (s ++ [(x, t)]) (xs ++ [.int .i64 x, .int .i64 t.head, .slice a t.args.length c])
  | [], [], _ => ⟨h0, rfl, h1, rfl, ⟨a, c, rfl, h4⟩, trivial⟩
  | (_, _) :: _, _ :: _ :: _ :: _, ⟨p1, p2, p3, p4, p5, p6⟩ => ⟨p1, p2, p3, p4, p5, BVals.snoc h0 h1 h4 p6⟩
  | [], _ :: _, h => h.elim
  | (_, _) :: _, [], h => h.elim
  | (_, _) :: _, [_], h => h.elim
  | (_, _) :: _, [_, _], h => h.elim
theorem BVals.length {ok : Nat → Prop} {w : World} : ∀ {s : Sb} {xs : List Value}, BVals ok w s xs → xs.length = s.length * 3
  | [], [], _ => rfl
  | (_, _) :: _, _ :: _ :: _ :: _, ⟨_, _, _, _, _, p⟩ => by simp [p.length]; omega
  | [], _ :: _, h => h.elim
  | (_, _) :: _, [], h => h.elim
  | (_, _) :: _, [_], h => h.elim
  | (_, _) :: _, [_, _], h => h.elim
theorem BVals.get {ok : Nat → Prop} {w : World} : ∀ {s : Sb} {xs : List Value} {j : Nat} {x : Int} {t : T}, BVals ok w s xs → s[j]? = some (x, t) →
    (Lit.int .i64 x).wf = true ∧ (Lit.int .i64 t.head).wf = true ∧ xs[j * 3]? = some (.int .i64 x) ∧ xs[j * 3 + 1]? = some (.int .i64 t.head) ∧ ∃ a c, xs[j * 3 + 2]? = some (.slice a t.args.length c) ∧ IsArgsp ok w t.args a c
  | [], [], j, x, t, _, hj => by simp at hj
  | (y, u) :: s, v :: h :: l :: xs, 0, x, t, ⟨h1, h2, h3, h4, ⟨a, c, h5, h6⟩, h7⟩, hj => by
    simp at hj
    obtain ⟨rfl, rfl⟩ := hj
    subst h2 h4 h5
    exact ⟨h1, h3, rfl, rfl, a, c, rfl, h6⟩
  | (y, u) :: s, v :: h :: l :: xs, j + 1, x, t, ⟨h1, h2, h3, h4, _, h7⟩, hj => by
    have := BVals.get h7 (j := j) (x := x) (t := t) (by simpa using hj)
    rw [show (j + 1) * 3 = j * 3 + 3 from by omega]
    exact this
  | [], _ :: _, _, _, _, h, _ => h.elim
  | (_, _) :: _, [], _, _, _, h, _ => h.elim
  | (_, _) :: _, [_], _, _, _, h, _ => h.elim
  | (_, _) :: _, [_, _], _, _, _, h, _ => h.elim

/-- A row of one's own, whose cells are bindings, is a list of bindings. -/
theorem isBs_of_owns {ok : Nat → Prop} {w : World} {base n : Nat} {v : Value} {s : Sb} {xs : List Value} (hown : w.ownsRow base 124 3 v s.length xs) (hr : BVals ok w s xs) (hm : ∀ b, ok b → b < n) (hg : ∀ g, v.ownBlock = some g → g < n) : ∃ a c, v = .slice a s.length c ∧ IsBs n w s a c := by
  have hcells := fun g hg => hown.cells (g := g) hg
  rcases hown.2 with ⟨rfl, h0⟩ | ⟨g, cap, cur, rfl, hb, hh, hn, hc, hs, _⟩
  · exact ⟨none, 0, by rw [h0], by omega, by simp [maxLen], .inl (List.eq_nil_of_length_eq_zero h0)⟩
  · refine ⟨_, cap, rfl, hn, hc, .inr ⟨g, 0, rfl, hg g rfl, fun j x hx => ?_⟩⟩
    obtain ⟨x, t⟩ := x
    obtain ⟨h1, h2, h3, h4, a, c, h5, h6⟩ := hr.get hx
    have e1 := hcells g rfl _ _ h3
    have e2 := hcells g rfl _ _ h4
    have e3 := hcells g rfl _ _ h5
    rw [addr_add] at e1 e2 e3
    exact ⟨h1, e1, isT_iff.2 ⟨h2, by rw [show 0 + j * 3 + 1 = 0 + (j * 3 + 1) from by omega]; exact e2, a, c, by rw [show 0 + j * 3 + 1 + 1 = 0 + (j * 3 + 2) from by omega]; exact e3, h6.toArgs hm⟩⟩

end Go.Proofs.YtbdabdjpgmnejaaGreat
