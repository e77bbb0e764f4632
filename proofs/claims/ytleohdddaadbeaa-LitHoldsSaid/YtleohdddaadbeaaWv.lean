/- Contracts of the document's WorldValue and WorldLit. -/
import Derived.Test.YtleohdddaadbeaaWn
import Derived.Test.YtleohdddaadbeaaWp
import Derived.Test.YtleohdddaadbeaaQDa
import Derived.Test.YtleohdddaadbeaaQDe
import Derived.BigQuiet
import Derived.Deep.QuietTactic
import Derived.Lib.QuietBelow
namespace Go.Proofs.Ytleohdddaadbeaa
set_option linter.unusedVariables false
set_option linter.unusedSimpArgs false
open Go.RowKit

def WvI (m : Ip) (f : List Int) (ts : List T) (w : World) (p i : Value) (wr : World) : Prop := ∃ k : Nat, k ≤ ts.length ∧ i = .int .i64 k ∧ p = .int .i64 (valL m f 0 (ts.take k)) ∧ Below w.heap.size w wr
theorem okV_head {g : Sg} {t : T} (h : OkV g t) : if t.head < 0 then t.args = [] ∧ -1 - t.head ≤ 255 else t.args.length ≤ 8 := by
  have := good_head h.2.1
  unfold okB at this
  split at this
  · rename_i q
    rw [if_pos q]
    simp only [Bool.and_eq_true, decide_eq_true_eq] at this
    exact ⟨List.eq_nil_of_length_eq_zero this.1, this.2⟩
  · rename_i q
    rw [if_neg q]
    simp only [Bool.and_eq_true, decide_eq_true_eq] at this
    exact this.2
/-- Where the value of a term lies. -/
theorem val_place {g : Sg} {m : Ip} (hm : wRight g m = true) {f : List Int} (hf : ∀ z ∈ f, 0 ≤ z ∧ z < m.size) {t : T} (ht : OkV g t) (h0 : 0 ≤ t.head) :
    t.args.length ≤ 4 ∧ t.head.toNat < m.rows.length ∧ (∀ s ∈ t.args, OkV g s ∧ 0 ≤ valT m f s ∧ valT m f s < m.size) ∧ (∀ k, k ≤ t.args.length → 0 ≤ valL m f 0 (t.args.take k) ∧ valL m f 0 (t.args.take k) < 256) ∧
      ∀ r, m.rows[t.head.toNat]? = some r → (valL m f 0 t.args).toNat < r.length := by
  obtain ⟨m1, m2, m3, m4, m5, m6⟩ := wRight_of hm
  obtain ⟨x, hx, ha, hp⟩ := okV_sym ht h0
  obtain ⟨r, hr, r1, r2, r3⟩ := m5 _ _ hx
  have hargs : ∀ s ∈ t.args, OkV g s ∧ 0 ≤ valT m f s ∧ valT m f s < m.size := fun s hs => by
    obtain ⟨q1, q2⟩ := okV_arg ht hs
    obtain ⟨q3, q4⟩ := valT_range hm hf s.size s (Nat.le_refl _) q1
    exact ⟨q1, q3, q4 q2⟩
  have hl : t.args.length ≤ 4 := by omega
  have hv := valL_range (g := g) m2 (fun s hs => (hargs s hs).2)
  refine ⟨hl, ?_, hargs, fun k hk => ?_, fun r' hr' => ?_⟩
  · have := (List.getElem?_eq_some_iff.1 hx).1; omega
  · have h1 := hv k hk
    have h2 := pow_small (n := k) m2 m3 (by omega)
    omega
  · rw [hr] at hr'
    injection hr' with hr'
    subst hr'
    have h1 := hv t.args.length (Nat.le_refl _)
    rw [List.take_length] at h1
    rw [show x.ar.toNat = t.args.length from by omega] at r2
    omega

set_option maxRecDepth 100000 in
set_option maxHeartbeats 8000000 in
theorem worldValue_any (g : Sg) (m : Ip) (hm : wRight g m = true) (f : List Int) (hf : ∀ z ∈ f, 0 ≤ z ∧ z < m.size) : ∀ (N : Nat) (t : T), t.size ≤ N → OkV g t → ∀ (n₀ : Nat) (ma : Option Addr) (mc : Nat) (fa : Option Addr) (fc : Nat) (a : Option Addr) (c : Nat) (w : World), n₀ ≤ w.heap.size → IsRs n₀ w m.rows ma mc → IsIs n₀ w f fa fc → (Lit.int .i64 t.head).wf = true → IsArgs n₀ w t.args a c →
    Calls Try.prog 53 #[ipV m ma mc, .slice fa f.length fc, tm t.head a t.args.length c] w fun e w' => e = .returned (.int .i64 (valT m f t)) ∧ Below w.heap.size w w' := by
  intro N
  induction N with
  | zero => intro t ht; have := T.size_pos t; omega
  | succ N ih =>
    intro t ht hok n₀ ma mc fa fc a c w hn hM hF hw hA
    have hfl : f.length ≤ fc ∧ fc ≤ maxLen := ⟨hF.1, hF.2.1⟩
    unfold maxLen at hfl
    obtain ⟨hf1, hf2⟩ := hfl
    have hoh := okV_head hok
    have IH := Lib.hid ih
    clear ih
    have HF := Lib.hid hf
    have HVE := Lib.hid (valT_eq m f t)
    have HOK := Lib.hid hok
    have HM := Lib.hid hm
    have d0 := (((((Later.below (Below.refl _ w)).and (later_args (hA.mono hn))).and (later_is (hF.mono hn))).and (later_rs (hM.mono hn))).pushI (Below.refl _ _) m ma mc).push (Below.refl _ _) t.head a t.args.length c
    simp only [heap_alloc_size] at d0
    have D := Lib.hid d0
    obtain ⟨hwl1, hwl2⟩ := wf_low hw
    clear d0 hA hF hM hok hm
    go_enter Try.func53, Try.ntmps53
    by_cases q : t.head < 0
    · rw [if_pos q] at hoh
      rw [if_pos q] at HVE
      have hv := hoh.2
      clear hoh
      by_cases ql : (-1 - t.head).toNat < f.length
      · obtain ⟨fb, fo, z, rfl, hfb, hz, hcz⟩ := D.out.now.2.2.2.1.elem (k := (-1 - t.head).toNat) ql
        have HE := Lib.hid (show valT m f t = z from by rw [HVE.out, List.getD_eq_getElem?_getD, hz]; rfl)
        have HQ := Lib.hid D.out.now.2.2.2.2.2
        have hq2 : -1 - t.head < (f.length : Int) := by omega
        rw [show ((-1 - t.head).toNat) = (-1 - t.head).toNat from rfl] at hcz
        clear hz HVE D HF HOK HM IH
        go_wp2
        go_ret
        exact ⟨by rw [HE.out]; rfl, HQ.out⟩
      · have HE := Lib.hid (show valT m f t = 0 from by rw [HVE.out, List.getD_eq_getElem?_getD, List.getElem?_eq_none (by omega)]; rfl)
        have HQ := Lib.hid D.out.now.2.2.2.2.2
        have hq2 : ¬ (-1 - t.head < (f.length : Int)) := by omega
        clear HVE D HF HOK HM IH
        go_wp2
        go_ret
        exact ⟨by rw [HE.out]; rfl, HQ.out⟩
    · rw [if_neg q] at HVE
      obtain ⟨ha4, hrow, hargs, hpre, hend⟩ := val_place HM.out HF.out HOK.out (show 0 ≤ t.head by omega)
      have HAR := Lib.hid hargs
      have HPR := Lib.hid hpre
      have HEN := Lib.hid hend
      obtain ⟨hz1, hz2⟩ : 1 ≤ m.size ∧ m.size ≤ 4 := ⟨(wRight_of HM.out).2.1, (wRight_of HM.out).2.2.1⟩
      clear hargs hpre hend hoh
      go_wp2
      generalize (w.alloc (ipO m ma mc)).alloc (tmCells t.head a t.args.length c) = w1 at D ⊢
      generalize hb0 : w.heap.size = b0 at D ⊢
      have HB0 := Lib.hid hb0
      clear hb0
      go_loopw [8, 9] (fun p i wr => WvI m f t.args w1 p i wr) (fun _ i _ => t.args.length - (intOf i).toNat)
      case atStart => exact ⟨0, Nat.zero_le _, rfl, by simp [valL], Below.refl _ _⟩
      case round =>
        obtain ⟨k, hk, rfl, rfl, hB⟩ := hrel
        have HB := Lib.hid hB
        have D2 := Lib.hid (D.out.mv hB)
        have hbz := hB.size
        have HQ := Lib.hid D2.out.now.2.2.2.2.2
        obtain ⟨⟨t0, t1⟩, ⟨i0, i1⟩, hrs, _, har, _⟩ := D2.out.now
        clear hB
        by_cases hlt : k < t.args.length
        · obtain ⟨b, o, s, a', c', rfl, hbn, hs, hsw, hc0, hc1, hsa⟩ := har.elem hlt
          have hk0 : (0 : Int) ≤ (k : Int) := Int.natCast_nonneg _
          have hk1 : (k : Int) < (t.args.length : Int) := by omega
          have hsm := List.mem_of_getElem? hs
          have hsz : s.size ≤ N := by have := T.size_lt_of_mem hs; have := T.size_eq t; omega
          have HST := Lib.hid (valL_take (m := m) (f := f) hs)
          obtain ⟨hos, hv0, hv1⟩ := HAR.out s hsm
          have hp0 := HPR.out k hk
          have hp1 := HPR.out (k + 1) (by omega)
          have CV := Lib.hid (fun (W : World) (hW : Below wr.heap.size wr W) => IH.out s hsz hos W.heap.size ma mc fa fc a' c' W (Nat.le_refl _) (D2.out.mv hW).now.2.2.1 (D2.out.mv hW).now.2.2.2.1 hsw ((hsa.below hW).mono hW.size))
          have hm1 : 0 ≤ valL m f 0 (t.args.take k) * m.size := Int.mul_nonneg hp0.1 (by omega)
          have HST' := HST.out
          have hw1 : IntKind.i64.wrap (valL m f 0 (t.args.take k) * m.size) = valL m f 0 (t.args.take k) * m.size := IntWalk.i64_in _ (by omega)
          have hw2 : IntKind.i64.wrap (valL m f 0 (t.args.take k) * m.size + valT m f s) = valL m f 0 (t.args.take (k + 1)) := by
            rw [IntWalk.i64_in _ (by omega)]; omega
          have hbw : b < wr.heap.size := by omega
          clear hs hsm HST HST' hsa hrs har hp0 hp1 hm1 hv0 hv1
          have ft0 := fun d os => cell_regrown t0 d os
          have ft1 := fun d os => cell_regrown t1 d os
          have fi0 := fun d os => cell_regrown i0 d os
          have fi1 := fun d os => cell_regrown i1 d os
          have fc0 := fun d os => cell_regrown hc0 d os
          have fc1 := fun d os => cell_regrown hc1 d os
          generalize valL m f 0 (t.args.take k) = A at hw1 hw2 ⊢
          generalize hA1 : valL m f 0 (t.args.take (k + 1)) = A1 at hw2
          have HA1 := Lib.hid hA1
          generalize valT m f s = V at CV hw2
          clear hA1
          go_wp2
          refine wp_region_wq (by kernel_rfl) (by kernel_rfl) ?_
          repeat (first
            | (refine WQ.skip (by rfl) ?_; simp only [Act.put, List.setIfInBounds_toArray, List.set_cons_succ, List.set_cons_zero])
            | (apply WQ.two (by rfl); (intro w' hw'; obtain ⟨pq, rfl⟩ := hw'; go_simp; first | (with_reducible exact Calls.regrown_of (CV.out _ (below_regrown _ _ _))) | exact rfl); simp only [Act.put, List.setIfInBounds_toArray, List.set_cons_succ, List.set_cons_zero]))
          refine WQ.nil ?_
          intro _ hw'
          obtain ⟨⟨dq, osq⟩, hw''⟩ := hw'
          subst hw''
          go_wp2
          go_roundw
          case rel => exact ⟨k + 1, by omega, by go_num, by rw [HA1.out], HB.out.trans ((below_regrown wr dq osq).mono hbz)⟩
          case measure => simp [intOf]; omega
        · obtain rfl : k = t.args.length := by omega
          obtain ⟨rb, ro, r, ra, rc, rfl, hrb, hrr, hrc, hri⟩ := hrs.elem hrow
          have hin := HEN.out r hrr
          obtain ⟨vb, vo, z, rfl, hvb, hzz, hcz⟩ := hri.elem hin
          have hp0 := HPR.out t.args.length (Nat.le_refl _)
          rw [List.take_length] at hp0
          have HE := Lib.hid (show valT m f t = z from by rw [HVE.out, List.getD_eq_getElem?_getD (l := m.rows), hrr]; show r.getD _ 0 = z; rw [List.getD_eq_getElem?_getD, hzz]; rfl)
          have hh0 : 0 ≤ t.head := by omega
          have hh1 : t.head < (m.rows.length : Int) := by omega
          rw [List.take_length]
          generalize valL m f 0 t.args = A at hp0 hin hcz ⊢
          have hA1 : A < (r.length : Int) := by omega
          obtain ⟨hA0, _⟩ := hp0
          clear hrr hzz hri hrs har HVE
          go_wp2
          go_ret
          exact ⟨by rw [HE.out]; rfl, by rw [HB0.out]; exact HQ.out⟩

set_option maxRecDepth 100000 in
set_option maxHeartbeats 4000000 in
/-- A literal in a world. -/
theorem worldLit_any (g : Sg) (m : Ip) (hm : wRight g m = true) (f : List Int) (hf : ∀ z ∈ f, 0 ≤ z ∧ z < m.size) (x : LV) (hl : OkV g x.l) (hr : OkV g x.r) (n₀ : Nat) (ma : Option Addr) (mc : Nat) (fa : Option Addr) (fc : Nat) (w : World) (hn : n₀ ≤ w.heap.size) (hM : IsRs n₀ w m.rows ma mc) (hF : IsIs n₀ w f fa fc) (hX : IsLv n₀ w x) :
    Calls Try.prog 27 #[ipV m ma mc, .slice fa f.length fc, x.v] w fun e w' => e = .returned (.bool (litB m f x.n x.l x.r)) ∧ Below w.heap.size w w' := by
  have d0 := (((((Later.below (Below.refl _ w)).and (later_lv (hX.mono hn))).and (later_is (hF.mono hn))).and (later_rs (hM.mono hn))).pushI (Below.refl _ _) m ma mc).pushL (Below.refl _ _) x
  simp only [heap_alloc_size] at d0
  have D := Lib.hid d0
  have CL := Lib.hid (fun (W : World) (hM : IsRs W.heap.size W m.rows ma mc) (hF : IsIs W.heap.size W f fa fc) (hX : IsLv W.heap.size W x) => worldValue_any g m hm f hf x.l.size x.l (Nat.le_refl _) hl W.heap.size ma mc fa fc x.pa x.ca W (Nat.le_refl _) hM hF hX.lw hX.la)
  have CR := Lib.hid (fun (W : World) (hM : IsRs W.heap.size W m.rows ma mc) (hF : IsIs W.heap.size W f fa fc) (hX : IsLv W.heap.size W x) => worldValue_any g m hm f hf x.r.size x.r (Nat.le_refl _) hr W.heap.size ma mc fa fc x.pb x.cb W (Nat.le_refl _) hM hF hX.rw hX.ra)
  have HLB := Lib.hid (show litB m f x.n x.l x.r = ((valT m f x.l == valT m f x.r) != x.n) from by unfold litB; congr 1)
  clear d0 hM hF hX hf
  go_enter Try.func27, Try.ntmps27
  go_wp2
  generalize (w.alloc (ipO m ma mc)).alloc x.obj = w1 at D ⊢
  generalize hb0 : w.heap.size = b0 at D ⊢
  have HB0 := Lib.hid hb0
  clear hb0
  have C1 := Lib.hid (fun (W : World) (hW : Below w1.heap.size w1 W) => CL.out W (D.out.mv hW).now.2.2.1 (D.out.mv hW).now.2.2.2.1 (D.out.mv hW).now.2.2.2.2.1)
  have C2 := Lib.hid (fun (W : World) (hW : Below w1.heap.size w1 W) => CR.out W (D.out.mv hW).now.2.2.1 (D.out.mv hW).now.2.2.2.1 (D.out.mv hW).now.2.2.2.2.1)
  have HQ := Lib.hid D.out.now.2.2.2.2.2
  obtain ⟨⟨x0, x1, x2, x3, x4⟩, ⟨i0, i1⟩, _⟩ := D.out.now
  clear D CL CR
  generalize valT m f x.l = V1 at C1 HLB
  generalize valT m f x.r = V2 at C2 HLB
  have f0 := fun d os => cell_regrown x0 d os
  have f1 := fun d os => cell_regrown x1 d os
  have f2 := fun d os => cell_regrown x2 d os
  have f3 := fun d os => cell_regrown x3 d os
  have f4 := fun d os => cell_regrown x4 d os
  have g0 := fun d os => cell_regrown i0 d os
  have g1 := fun d os => cell_regrown i1 d os
  refine wp_region_wq (by kernel_rfl) (by kernel_rfl) ?_
  repeat (first
    | (refine WQ.skip (by rfl) ?_; simp only [Act.put, List.setIfInBounds_toArray, List.set_cons_succ, List.set_cons_zero])
    | (apply WQ.two (by rfl); (intro w' hw'; obtain ⟨pq, rfl⟩ := hw'; go_simp; first | (with_reducible exact Calls.regrown_of (C1.out _ (below_regrown _ _ _))) | (with_reducible exact Calls.regrown_of (C2.out _ (below_regrown _ _ _))) | exact rfl); simp only [Act.put, List.setIfInBounds_toArray, List.set_cons_succ, List.set_cons_zero]))
  refine WQ.nil ?_
  intro _ hw'
  obtain ⟨⟨dq, osq⟩, hw''⟩ := hw'
  subst hw''
  go_wp2
  go_ret
  exact ⟨by rw [HLB.out]; rfl, by rw [HB0.out]; exact HQ.out.trans ((below_regrown w1 dq osq).mono (by have := HQ.out.size; have := HB0.out; omega))⟩

end Go.Proofs.Ytleohdddaadbeaa
