/- Contract of weigh's Counts. -/
import Derived.Test.YtacbkiknpnokcaaWg
namespace Go.Proofs.Ytacbkiknpnokcaa
set_option linter.unusedVariables false
set_option linter.unusedSimpArgs false
open Go.RowKit Go.Maps

theorem zeroCounts (w : World) : Sem.run Try.prog (zeroValue 67) w = .ok (.agg (Array.replicate 256 (.int .i64 0))) w := by kernel_rfl

/-- The first so many counts. -/
def ctList (L : List Int) (en : Nat) : List Int := (List.range en).map fun (v : Nat) => ((L.count (-1 - (v : Int)) : Nat) : Int)
/-- All variables up to 255 lie below en, and en - 1 is one. -/
def IsEnd (L : List Int) (en : Nat) : Prop := en ≤ 256 ∧ (∀ v : Nat, v < 256 → (-1 - (v : Int)) ∈ L → v < en) ∧ (en = 0 ∨ ∃ v : Nat, v + 1 = en ∧ (-1 - (v : Int)) ∈ L)
def CtsPost (t : T) (w : World) (e : Ending) (w' : World) : Prop :=
  ∃ en v, e = .returned v ∧ IsEnd t.hds en ∧ w'.ownsRow w.heap.size 3 1 v en ((ctList t.hds en).map (Value.int .i64)) ∧ Below w.heap.size w w'

structure CtI (w : World) (M r A : Nat) (n : Nat) (D : DataW Unit) (L : List Int) (ev : Value) (left : Lit → Bool) (cnt en : Nat) (wr : World) : Prop where
  rg : wr.ranges Try.prog 3 (plainElem Try.prog 3) M r n D left cnt
  ev : ev = .int .i64 (en : Nat)
  le : en ≤ 256
  cells : ∀ v : Nat, v < 256 → wr.cell? ⟨A, v, none⟩ = some (.int .i64 (if left (.int .i64 (-1 - (v : Int))) then 0 else ((L.count (-1 - (v : Int)) : Nat) : Int)))
  free : ∀ v : Nat, v < 256 → wr.frozen? ⟨A, v, none⟩ = false
  up : ∀ v : Nat, v < 256 → (-1 - (v : Int)) ∈ L → left (.int .i64 (-1 - (v : Int))) = false → v < en
  down : en = 0 ∨ ∃ v : Nat, v + 1 = en ∧ (-1 - (v : Int)) ∈ L
  below : Below w.heap.size w wr

theorem grownBy_setCell (w : World) (b o : Nat) (u : Value) : w.grownBy (w.setCell ⟨b, o, none⟩ u) (some b) :=
  ⟨rfl, rfl, rfl, by simp, fun k hk hn => Below.heap_setCell _ _ _ _ (fun e => hn (by rw [e]))⟩
section
variable {w : World} {M r A n : Nat} {D : DataW Unit} {L : List Int} {ev : Value} {left : Lit → Bool} {cnt cnt1 en : Nat} {wr w5 : World}
theorem CtI.cells5 (h : CtI w M r A n D L ev left cnt en wr) (hAr : A ≠ r) (hg : wr.grownBy w5 (some r)) (v : Nat) (hv : v < 256) :
    w5.cell? ⟨A, v, none⟩ = some (.int .i64 (if left (.int .i64 (-1 - (v : Int))) then 0 else ((L.count (-1 - (v : Int)) : Nat) : Int))) ∧ w5.frozen? ⟨A, v, none⟩ = false := by
  have hc := h.cells v hv
  have hb := hg.block A (World.block_lt_of_cell? wr ⟨A, v, none⟩ hc) (by simpa using hAr)
  refine ⟨(World.cell?_of_block (a := ⟨A, v, none⟩) hb).trans hc, ?_⟩
  have hf := h.free v hv
  simp only [World.frozen?, hb] at hf ⊢
  exact hf
theorem CtI.out (h : CtI w M r A n D L ev left cnt en wr) (hAr : A ≠ r) (hr : w.heap.size ≤ r) {x : Int} (hx : ∀ v : Nat, v < 256 → -1 - (v : Int) ≠ x) (hg : wr.grownBy w5 (some r))
    (hrg : w5.ranges Try.prog 3 (plainElem Try.prog 3) M r n D (fun z => left z && !z.sameKey (.int .i64 x)) cnt1) : CtI w M r A n D L ev (fun z => left z && !z.sameKey (.int .i64 x)) cnt1 en w5 := by
  have hl : ∀ v : Nat, v < 256 → (left (.int .i64 (-1 - (v : Int))) && !(Lit.int .i64 (-1 - (v : Int))).sameKey (.int .i64 x)) = left (.int .i64 (-1 - (v : Int))) := fun v hv => by
    rw [sameKey_int]; simp [hx v hv]
  refine ⟨hrg, h.ev, h.le, fun v hv => ?_, fun v hv => (h.cells5 hAr hg v hv).2, fun v hv hm hf => h.up v hv hm ?_, h.down, h.below.grown hg h.below.size (fun k e => by cases e; exact hr)⟩
  · rw [hl v hv]; exact (h.cells5 hAr hg v hv).1
  · rw [hl v hv] at hf; exact hf
theorem CtI.hit (h : CtI w M r A n D L ev left cnt en wr) (hAr : A ≠ r) (hAM : A ≠ M) (hwA : w.heap.size ≤ A) (hr : w.heap.size ≤ r) {v : Nat} (hv : v < 256) (hm : (-1 - (v : Int)) ∈ L) (hg : wr.grownBy w5 (some r))
    (hrg : w5.ranges Try.prog 3 (plainElem Try.prog 3) M r n D (fun z => left z && !z.sameKey (.int .i64 (-1 - (v : Int)))) cnt1) :
    CtI w M r A n D L (.int .i64 ((max en (v + 1) : Nat) : Int)) (fun z => left z && !z.sameKey (.int .i64 (-1 - (v : Int)))) cnt1 (max en (v + 1)) (w5.setCell ⟨A, v, none⟩ (.int .i64 ((L.count (-1 - (v : Int)) : Nat) : Int))) := by
  have hl : ∀ u : Nat, u ≠ v → (left (.int .i64 (-1 - (u : Int))) && !(Lit.int .i64 (-1 - (u : Int))).sameKey (.int .i64 (-1 - (v : Int)))) = left (.int .i64 (-1 - (u : Int))) := fun u hu => by
    rw [sameKey_int]; simp [show ¬ (-1 - (u : Int) = -1 - (v : Int)) from by omega]
  have hle := h.le
  refine ⟨hrg.kept (grownBy_setCell w5 A v _) (by simpa using hAM.symm) (by simpa using hAr.symm), rfl, by omega, fun u hu => ?_, fun u hu => ?_, fun u hu hmu hf => ?_, ?_, (h.below.grown hg h.below.size (fun k e => by cases e; exact hr)).setCell (p := ⟨A, v, none⟩) hwA _⟩
  · by_cases e : u = v
    · subst e
      rw [World.cell?_setCell_same' _ _ _ (by rw [(h.cells5 hAr hg u hu).1]; rfl), sameKey_int]
      simp
    · rw [World.cell?_setCell_other _ _ _ _ (by intro q; simp at q <;> first | omega | exact e q.symm | exact e q), hl u e]
      exact (h.cells5 hAr hg u hu).1
  · have := (h.cells5 hAr hg u hu).2
    have hb : A < w5.heap.size := World.block_lt_of_cell? w5 ⟨A, u, none⟩ (h.cells5 hAr hg u hu).1
    simpa [World.frozen?_setCell] using this
  · by_cases e : u = v
    · omega
    · rw [hl u e] at hf
      have := h.up u hu hmu hf
      omega
  · by_cases q : v + 1 ≤ en
    · rcases h.down with h0 | ⟨u, h1, h2⟩
      · omega
      · exact .inr ⟨u, by omega, h2⟩
    · exact .inr ⟨v, by omega, hm⟩
theorem CtI.fin (h : CtI w M r A n D L ev left cnt en wr) (hl0 : ∀ kl, left kl = false) : IsEnd L en ∧ ∀ (j : Nat) (u : Value), ((ctList L en).map (Value.int .i64))[j]? = some u → wr.cell? ((⟨A, 0, none⟩ : Addr).add j) = some u := by
  refine ⟨⟨h.le, fun v hv hm => h.up v hv hm (hl0 _), h.down⟩, fun j u hj => ?_⟩
  unfold ctList at hj
  rw [List.getElem?_map, Option.map_eq_some_iff] at hj
  obtain ⟨z, hz, rfl⟩ := hj
  rw [List.getElem?_map, Option.map_eq_some_iff] at hz
  obtain ⟨k, hk, rfl⟩ := hz
  obtain ⟨hk1, hk2⟩ := List.getElem?_eq_some_iff.1 hk
  simp at hk1 hk2
  subst hk2
  have := h.cells j (by have := h.le; omega)
  rw [hl0] at this
  rw [addr_add, Nat.zero_add]
  simpa using this
end

theorem arrCounts : Try.prog.underlying 67 = some (.array (Try.prog.arrayLen 67) (Try.prog.elem 67)) := by kernel_rfl
theorem lenCounts : Try.prog.arrayLen 67 = 256 := by kernel_rfl
theorem elemCounts : Try.prog.elem 67 = 3 := by kernel_rfl
theorem run_sliceCounts (A en : Nat) (he : en ≤ 256) (w : World) : (Instr.sliceAt 67 (.pointer (some ⟨A, 0, none⟩)) none (some (.int .i64 (en : Nat))) none).run Try.prog w = .ok (.slice (some ⟨A, 0, none⟩) en 256) w := by
  rw [run_sliceAt_array_h (P := Try.prog) w 67 ⟨A, 0, none⟩ arrCounts .i64 (en : Nat) (by omega) (by rw [lenCounts]; omega), elemCounts, lenCounts, Try.sizeOf3]
  simp [slicedAt, addr_add]

set_option maxRecDepth 100000 in
set_option maxHeartbeats 4000000 in
theorem counts_any (t : T) (hsz : t.size ≤ 1000000000000) (n₀ : Nat) (a : Option Addr) (c : Nat) (w : World) (hn : n₀ ≤ w.heap.size) (hwf : (Lit.int .i64 t.head).wf = true) (hA : IsArgs n₀ w t.args a c) :
    Calls Try.prog 13 #[tm t.head a t.args.length c] w (CtsPost t w) := by
  have CH := Lib.hid (fun (W : World) (hW : Below w.heap.size w W) => heads_any t hsz n₀ a c W (Nat.le_trans hn hW.size) hwf (hA.below (hW.mono hn)))
  obtain ⟨Z, hZ⟩ : ∃ Z : Array Value, Array.replicate 256 (.int .i64 0) = Z := ⟨_, rfl⟩
  have hz : ∀ w, Sem.run Try.prog (zeroValue 67) w = .ok (.agg Z) w := fun w => by rw [← hZ]; exact zeroCounts w
  obtain ⟨W1, hW1⟩ : ∃ W1, w.alloc (tmCells t.head a t.args.length c) = W1 := ⟨_, rfl⟩
  have hs1 : W1.heap.size = w.heap.size + 1 := by rw [← hW1]; simp
  have LT1 : Later (fun X => Vc w.heap.size t.head a t.args.length c X) W1 := by rw [← hW1]; exact later_var w _ _ _ _
  have hF1 : Below w.heap.size w W1 := by rw [← hW1]; exact (Below.refl _ w).alloc (Nat.le_refl _) _
  obtain ⟨W2, hW2⟩ : ∃ W2, W1.alloc (.cells Z 67) = W2 := ⟨_, rfl⟩
  have hA2 : W2.heap[w.heap.size + 1]? = some (.cells Z 67 (0, 0)) := by rw [← hW2, ← hs1]; exact heap_alloc_new W1 _
  have hs2 : W2.heap.size = w.heap.size + 2 := by rw [← hW2]; simp; omega
  have HF2 := Lib.hid (show Below w.heap.size w W2 from by rw [← hW2]; exact hF1.alloc (by omega) _)
  have LT2 := Lib.hid (show Later (fun X => Vc w.heap.size t.head a t.args.length c X) W2 from LT1.mv (by rw [← hW2]; exact (Below.refl _ W1).alloc (Nat.le_refl _) _))
  have hsz2 : w.heap.size + 1 < W2.heap.size := by omega
  have HA2 := Lib.hid hA2
  have HZ := Lib.hid hZ
  obtain ⟨hv0, hv1⟩ := LT2.out.now
  clear hA hZ hF1 LT1 hA2
  go_enter Try.func13, Try.ntmps13
  go_wp2_with fail
  refine (CH.out _ HF2.out).mono ?_
  rintro e w3 ⟨M, rfl, hM1, hM2, hb3⟩
  have HB3 := Lib.hid (HF2.out.trans (hb3.mono HF2.out.size))
  have hA3 : w3.heap[w.heap.size + 1]? = some (.cells Z 67 (0, 0)) := (hb3.block _ hsz2).trans HA2.out
  obtain ⟨D, hown, hD, hwfs⟩ := hM2
  have HD := Lib.hid hD
  have HWF := Lib.hid hwfs
  have hMw : w.heap.size + 1 < M := by omega
  have hMl : M < w3.heap.size := hown.lt
  have h3w : w.heap.size ≤ w3.heap.size := HB3.out.size
  clear hb3 LT2 hv0 hv1 hD hwfs hW1 hW2 hs1 hs2 HF2 HA2
  go_wp2_with (first | (at_range; refine wpList_range_own _ rfl _ 51 rfl 3 3 keyHd Try.underlying51 _ M _ D rfl hown ?_; intro w4 hrg0 hg0 hs0))
  go_frame
  have HST := Lib.hid (show ∃ left cnt en, CtI w M w3.heap.size (w.heap.size + 1) t.hds.length D t.hds (.int .i64 0) left cnt en w4 from by
    have hA4 : w4.heap[w.heap.size + 1]? = some (.cells Z 67 (0, 0)) := (hg0.block _ (by omega) (by simp)).trans hA3
    rw [← HZ.out] at hA4
    refine ⟨_, _, 0, ⟨hrg0, rfl, by omega, fun v hv => ?_, fun v hv => by simp [World.frozen?, hA4], fun v hv hm hl => ?_, .inl rfl, HB3.out.grown hg0 h3w (fun k e => by cases e)⟩⟩
    · have hc : w4.cell? ⟨w.heap.size + 1, v, none⟩ = some (.int .i64 0) := by
        simp [World.cell?, hA4, hv]
      rw [hc]
      by_cases hm : (-1 - (v : Int)) ∈ t.hds
      · rw [(HD.out _ (HWF.out _ hm)).1]; simp [hm]
      · rw [List.count_eq_zero.2 hm]; simp
    · rw [(HD.out _ (HWF.out _ hm)).1] at hl
      simp [hm] at hl)
  clear hrg0 hg0 hs0 hown hA3
  go_loopw [4] (fun ev wr => ∃ left cnt en, CtI w M w3.heap.size (w.heap.size + 1) t.hds.length D t.hds ev left cnt en wr) (fun _ wr => wr.rangeLeft M w3.heap.size)
  case atStart => exact HST.out
  case round =>
    clear HST
    obtain ⟨left, cnt, en, hI⟩ := hrel
    have hrg := hI.rg
    obtain rfl := hI.ev
    have HI := Lib.hid hI
    clear hI
    go_wp2_with (first | (at_next; refine wpList_next_ranges_ii _ rfl _ rfl 3 3 .i64 .i64 keyHd Try.underlying3 Try.underlying3 M w3.heap.size _ _ _ _ rfl hrg ?_ ?_))
    · intro hc0 hl0
      have hen : en ≤ 256 := HI.out.le
      have hcl := fun (v : Nat) (hv : v < 256) => HI.out.cells v hv
      have hsl := run_sliceCounts (w.heap.size + 1) en hen wr
      obtain ⟨hE, hnews⟩ := HI.out.fin hl0
      have HE := Lib.hid hE
      have hbz : w.heap.size ≤ wr.heap.size := HI.out.below.size
      obtain ⟨i0, hi, hz0, hz1, hz2⟩ := info_parts info3
      clear hE hrg hcl
      go_wp2_with (at_builtin; refine stopHere ?_)
      refine Lib.hid ?_
      refine wpList_append_own _ rfl _ _ 26 rfl w.heap.size 3 i0 (.int .i64 0) 1 8 Try.underlying26 hi hz0 hz1 hz2 rfl (by decide) (.slice none 0 0) 0 [] rfl ⟨by simp, .inl ⟨rfl, rfl⟩⟩ ⟨w.heap.size + 1, 0, none⟩ en 256 ((ctList t.hds en).map (Value.int .i64)) rfl (by simp [ctList]) hnews (by intro u hu; obtain ⟨z, _, rfl⟩ := List.mem_map.1 hu; rfl) (by unfold maxLen; omega) (by omega) hbz ?_
      intro v' w7 hown hgr _
      have HO7 := Lib.hid hown
      have HB7 := Lib.hid (show Below w.heap.size w w7 from HI.out.below.grown hgr hbz (fun k e => by cases e))
      clear hown hgr hnews hsl
      go_wp2
      go_ret
      exact ⟨en, v', rfl, HE.out, by simpa using HO7.out, HB7.out⟩
    · intro x cv w5 cnt1 hwx hwc hlx hat hrg1 hlt hg1 hs1 hen
      obtain ⟨hxm, rfl⟩ := CntM.entry HD.out hwx hat
      obtain ⟨hx1, hx2⟩ := hwf_of hwx
      have HRG := Lib.hid hrg1
      have HR0 := Lib.hid hrg
      have HG1 := Lib.hid hg1
      have HXM := Lib.hid hxm
      have hAr : w.heap.size + 1 ≠ w3.heap.size := by omega
      have hAM : w.heap.size + 1 ≠ M := by omega
      by_cases q1 : x < 0
      · by_cases q2 : -1 - x ≤ 255
        · obtain ⟨v, hv⟩ : ∃ v : Nat, x = -1 - (v : Int) := ⟨(-1 - x).toNat, by omega⟩
          have hvn : (-1 - x).toNat = v := by omega
          have hv2 : v < 256 := by omega
          have hstep := HI.out.hit hAr hAM (by omega) (by omega) hv2 (by rw [← hv]; exact hxm) hg1 (by rw [← hv]; exact hrg1)
          obtain ⟨hc5, hf5⟩ := HI.out.cells5 hAr hg1 v hv2
          rw [← hvn] at hc5 hf5 hstep
          have hmx : max (en : Int) (-1 - x + 1) = ((max en ((-1 - x).toNat + 1) : Nat) : Int) := by omega
          rw [← hmx] at hstep
          have hxx : -1 - (((-1 - x).toNat : Nat) : Int) = x := by omega
          rw [hxx] at hstep hc5
          have HST := Lib.hid hstep
          have hlen : en ≤ 256 := HI.out.le
          generalize (if left (.int .i64 x) then (0 : Int) else ((t.hds.count x : Nat) : Int)) = zc at hc5
          clear hat hwx hwc hlx hxm hrg1 hrg hg1 hstep hmx hxx hv hvn
          go_wp2
          go_roundw
          case rel => exact ⟨_, cnt1, _, HST.out⟩
          case measure =>
            have h1 := HST.out.rg
            rw [h1.left_eq, HR0.out.left_eq]; exact hlt
        · have hstep := HI.out.out hAr h3w (x := x) (fun v hv => by omega) hg1 hrg1
          have HST := Lib.hid hstep
          clear hat hwx hwc hlx hxm hrg1 hrg hg1 hstep
          go_wp2
          go_roundw
          case rel => exact ⟨_, cnt1, en, HST.out⟩
          case measure => rw [HRG.out.left_eq, HR0.out.left_eq]; exact hlt
      · have hstep := HI.out.out hAr h3w (x := x) (fun v hv => by omega) hg1 hrg1
        have HST := Lib.hid hstep
        clear hat hwx hwc hlx hxm hrg1 hrg hg1 hstep
        go_wp2
        go_roundw
        case rel => exact ⟨_, cnt1, en, HST.out⟩
        case measure => rw [HRG.out.left_eq, HR0.out.left_eq]; exact hlt

end Go.Proofs.Ytacbkiknpnokcaa
