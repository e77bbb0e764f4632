/- Contract of the matcher's method substitution. -/
import Derived.Test.YtjebfmcgenhchaaMtK
import Derived.Deep.AppendLies
namespace Go.Proofs.Ytjebfmcgenhchaa
set_option linter.unusedVariables false
set_option linter.unusedSimpArgs false
open Go.RowKit Go.Maps

section
variable {P : Program} {w : World} {ops : Array Oper} {rest : List Oper} {o : Oper} {a : Act} {Q : Exit → Act → World → Prop}
theorem wpList_look1 (hg : o.guard = none) (m x : Operand) (t : TypeId) (hop : o.op = Op.lookup t m x false)
    (k e : TypeId) (K : Keyed P k) (ht : P.underlying t = some (.map k e)) {z : Value} (hz : (zeroValue e).run P w = .ok z w) (b n : Nat) (D : DataW Value)
    (hm : a.eval m = .map (some b)) (hown : w.ownsMap P k heldR b n D) (key : Value) (kl : Lit) (hx : a.eval x = key) (hkey : keyOf P k key = some kl) (u : Value) (hat : ∀ z, D.atKey kl z = .held u)
    (hK : wpList P ops Q rest (a.put o.dst u) w) : wpList P ops Q (o :: rest) a w := by
  refine wpList_plain hg fun K' hK' => ?_
  obtain ⟨v, ps, hrun, hv⟩ := hown.lookup K ht hz (zd := .held z) (zp := []) rfl hkey
  rw [hat] at hv
  simp only [heldR, Option.some.injEq, Prod.mk.injEq, DataW.held.injEq] at hv
  obtain ⟨rfl, _⟩ := hv
  unfold Oper.wp
  simp [execOp, hop, hm, hx, hrun, Result.andThen]
  exact hK' _ _ hK
end
theorem thenT_nil {M : Sb} (hg : ∀ q ∈ M, bad (T.subs 1 q.2) = false) (hk : KN M) {v : Int} (hb : bnd M v = true) : thenT M [] v = ofS M v := by
  unfold thenT
  exact sub_vt (hg _ (mem_of_bndN hk hb))
theorem thenL_eq (s u : Sb) (vs : List Int) : thenL s u vs = (vs.filter (fun v => decide ((thenT s u v).head ≠ -1 - v))).map (fun v => (v, thenT s u v)) := by
  induction vs with
  | nil => rfl
  | cons v vs ih =>
    rw [thenL, ih, List.filter_cons]
    by_cases q : (thenT s u v).head = -1 - v
    · simp [q]
    · simp [q]
theorem sm_then {M : Sb} (hg : ∀ q ∈ M, bad (T.subs 1 q.2) = false) (hk : KN M) : thenL M [] (sorted (M.map Prod.fst)) = sm M := by
  rw [thenL_eq, sm]
  have e : ∀ v ∈ sorted (M.map Prod.fst), thenT M [] v = ofS M v := fun v hv => thenT_nil hg hk (bnd_mem.2 ((sorted_mem _ _).1 hv))
  rw [List.filter_congr (fun v hv => by rw [e v hv])]
  apply List.map_congr_left
  intro v hv
  rw [e v (List.mem_filter.1 hv).1]
def SmPost (s : Sb) (w : World) (e : Ending) (w' : World) : Prop := ∃ a c, e = .returned (.slice a s.length c) ∧ IsBs w'.heap.size w' s a c ∧ Below w.heap.size w w'

set_option maxRecDepth 100000 in
set_option maxHeartbeats 4000000 in
theorem msubst_any (M : Sb) (hl : M.length ≤ 100000) (hk : KN M) (hc : ∀ q ∈ M, q.2.check = 0) (hb : ∀ q ∈ M, 0 ≤ q.1 ∧ q.1 ≤ 255) (n₀ B : Nat) (w : World) (hn : n₀ ≤ w.heap.size) (hT : TabR n₀ w B M) :
    Calls Try.prog 62 #[.map (some B)] w (SmPost (sm M) w) := by
  have hg : ∀ q ∈ M, bad (T.subs 1 q.2) = false := fun q hq => (check_ok (hc q hq)).2.2
  have HG := Lib.hid hg
  have HK := Lib.hid hk
  have HC := Lib.hid hc
  have HBD := Lib.hid hb
  have HT := Lib.hid hT
  obtain ⟨D, hD, hno, hyes⟩ := hT
  have hperm : (M.map Prod.fst).Perm (intKeys D) := CollectedI.perm (left := fun _ => false) (ss := M.map Prod.fst) ⟨hk, fun x => by
    rw [← bnd_mem]
    constructor
    · intro h; exact ⟨(hyes x h).1, rfl⟩
    · rintro ⟨h, _⟩
      cases hbx : bnd M x
      · rw [hno x hbx] at h; cases h
      · rfl⟩ hD keyInt Try.underlying3 (fun _ => rfl)
  have HP := Lib.hid hperm
  have HD := Lib.hid hD
  clear hg hk hc hb hno hyes hperm
  obtain ⟨i0, hi, hz0, hz1, hz2⟩ := info_parts infoBind
  go_enter Try.func62, Try.ntmps62
  go_wp2_with fail
  refine (keysM_any _ w).mono ?_
  rintro e w1 ⟨rfl, rfl⟩
  go_wp2_with fail
  refine (sortedM_any B M.length D w HD.out (by omega)).mono ?_
  rintro e wL ⟨v, ss, rfl, hss, hrow, _, hbL⟩
  obtain ⟨zs, hzs⟩ : ∃ zs, sorted (M.map Prod.fst) = zs := ⟨_, rfl⟩
  have hmz : ss.mergeSort (fun x y => decide (x ≤ y)) = zs := by
    rw [← hzs]
    exact mergeSort_of_perm_i (hss.trans HP.out.symm)
  have hzl : ss.length = zs.length := by rw [← hmz]; simp
  rw [hmz, hzl] at hrow
  obtain ⟨av, cv, rfl, hI, _⟩ := own_is hrow
  have hzml : zs.length = M.length := by rw [← hzs, sorted_length]; simp
  have HZML := Lib.hid hzml
  have HI := Lib.hid hI
  have HZS := Lib.hid hzs
  have HBL := Lib.hid (((Below.refl _ w).alloc (Nat.le_refl _) _).trans (hbL.mono (by omega)))
  have HTL := Lib.hid (HT.out.below hn HBL.out)
  have hnL : n₀ ≤ wL.heap.size := Nat.le_trans hn HBL.out.size
  have hlz : zs.length ≤ cv ∧ cv ≤ maxLen := ⟨hI.1, hI.2.1⟩
  unfold maxLen at hlz
  obtain ⟨hlz1, hlz2⟩ := hlz
  clear hss hrow hmz hzl hI hzs hbL hzml
  go_wp2
  go_loopw [3, 5, 6, 11] (fun v _ _ i wr => ThI M [] zs wL v i wr) (fun _ _ _ i _ => zs.length - (intOf i).toNat)
  case atStart => exact ⟨0, _, [], Nat.zero_le _, rfl, rfl, rfl, Nat.le_refl _, World.ownsRow_nil _ _ _ _, trivial, Below.refl _ _⟩
  case round =>
    obtain ⟨k, vv, xs, hk, rfl, rfl, hE, hLL, hrow, hbv, hB⟩ := hrel
    have HE := Lib.hid hE
    have HROW := Lib.hid hrow
    have HBV := Lib.hid hbv
    have HB := Lib.hid hB
    have hbz := hB.size
    clear hE hrow hbv hB
    by_cases hlt : k < zs.length
    · obtain ⟨b, o, z, rfl, hbn, hz, hcz⟩ := (HI.out.below HB.out).elem (k := k) hlt
      have hzm : bnd M z = true := bnd_mem.2 ((sorted_mem _ _).1 (by rw [HZS.out]; exact List.mem_of_getElem? hz))
      have hmem := mem_of_bndN HK.out hzm
      obtain ⟨hzb0, hzb1⟩ := HBD.out _ hmem
      simp only [] at hzb0 hzb1
      have hck := HC.out _ hmem
      have htt := thenT_nil HG.out HK.out hzm
      obtain ⟨D1, hD1, _, hyes⟩ := HTL.out.below hnL HB.out
      obtain ⟨_, hxw, ax, cx, hat, hxA⟩ := hyes z hzm
      have hkey := keyOf_int_mk (P := Try.prog) (k := 3) Try.underlying3 (WalkArith.wf_i64 (n := z) ⟨by omega, by omega⟩)
      have hk0 : (0 : Int) ≤ (k : Int) := Int.natCast_nonneg _
      have hk1 : (k : Int) < (zs.length : Int) := by omega
      have HZ := Lib.hid hz
      have hbw : b < wr.heap.size := by omega
      obtain ⟨x, hx⟩ : ∃ x, ofS M z = x := ⟨_, rfl⟩
      simp only [] at hck
      rw [hx] at htt hxw hat hxA hck
      have HX := Lib.hid htt
      have HXW := Lib.hid hxw
      have HXA := Lib.hid hxA
      have HCK := Lib.hid hck
      clear hz hmem hzm htt hx hxw hxA hck hyes
      have hxs : x.size ≤ 1000000 := Nat.le_trans (check_ok HCK.out).1 (by omega)
      by_cases qv : x.head = -1 - z
      · have hqe : (x.head == -1 - z) = true := by simpa using qv
        have QV := Lib.hid qv
        clear qv
        have HD1 := Lib.hid hD1
        go_wp2_with (first | (at_lookup; refine wpList_look1 (by rfl) _ _ 80 (by rfl) 3 24 keyInt Try.underlying80 (zeroTerm _) B M.length D1 (by rfl) hD1 _ _ (by rfl) hkey (tm x.head ax x.args.length cx) hat ?_) | go_in)
        go_roundw
        case rel =>
          have hst : thenL M [] (zs.take (k + 1)) = thenL M [] (zs.take k) := by rw [thenL_step HZ.out, HX.out, if_pos QV.out, List.append_nil]
          have hB1 : ∀ ob, Below wr.heap.size wr (wr.alloc ob) := fun ob => (Below.refl _ _).alloc (Nat.le_refl _) _
          refine ⟨k + 1, _, xs, by omega, by go_num, rfl, thenE_step HE.out HZ.out (by rw [HX.out]; exact HCK.out), by rw [hst]; omega, by rw [hst]; exact ownsRow_later HROW.out (hB1 _), ?_, HB.out.alloc hbz _⟩
          rw [hst]
          exact HBV.out.keep (fun b hb => (hB1 _).block b hb.2.1) (fun b hb => ⟨hb.1, by have := hb.2.1; simp; omega, hb.2.2⟩)
        case measure => simp [intOf]; omega
      · have hqe : (x.head == -1 - z) = false := by simpa using qv
        have QV := Lib.hid qv
        clear qv
        have hB1 : Below wr.heap.size wr (wr.alloc (tmCells x.head ax x.args.length cx)) := (Below.refl _ _).alloc (Nat.le_refl _) _
        have CC := Lib.hid (copy_any x hxs n₀ ax cx (wr.alloc (tmCells x.head ax x.args.length cx)) (by simp; omega) HXW.out (HXA.out.below (hB1.mono (by omega))))
        have HB1 := Lib.hid hB1
        clear hB1
        have hkm : (thenL M [] (zs.take k)).length + 1 ≤ maxLen := by have := HZML.out; unfold maxLen; omega
        have hkm2 : zs.length ≤ 100000 := by have := HZML.out; omega
        go_wp2_with (first | (at_lookup; refine wpList_look1 (by rfl) _ _ 80 (by rfl) 3 24 keyInt Try.underlying80 (zeroTerm _) B M.length D1 (by rfl) hD1 _ _ (by rfl) hkey (tm x.head ax x.args.length cx) hat ?_) | (go_at_call 85; refine CC.out.mono ?_; rintro e w6 ⟨a4, c4, rfl, hI6, hb6⟩; have hB6 := HB1.out.trans (hb6.mono HB1.out.size); have hrow6 := ownsRow_later HROW.out hB6; have hz6 := hB6.size; have hbase : wL.heap.size ≤ w6.heap.size := Nat.le_trans hbz hz6) | (at_builtin; refine wpList_append_lies _ (by rfl) _ _ 26 (by rfl) wL.heap.size 40 i0 _ 3 40 Try.underlying26 hi hz0 hz1 hz2 rfl (by omega) _ _ xs (by rfl) (hrow6.alloc _) ⟨w6.heap.size, 0, none⟩ 1 1 [.int .i64 z, .int .i64 x.head, .slice a4 x.args.length c4] (by rfl) (by rfl) (World.news_of_block (cs := #[.int .i64 z, .int .i64 x.head, .slice a4 x.args.length c4]) (t := 40) (fr := (0, 0)) (heap_alloc_new w6 _)) (by simp [Value.oneCell']) (by omega) hkm (by omega) (by simp; omega) (w6.heap.size + 1) (by simp) ?_; intro g cap w8 hown8 hgrow8 hat8 hlt8) | go_in)
        go_roundw
        case rel =>
          have hB7 : Below wr.heap.size wr (w6.alloc (.cells #[.int .i64 z, .int .i64 x.head, .slice a4 x.args.length c4] 40)) := hB6.alloc hz6 _
          exact then_step (lo := wr.heap.size) HX.out HZ.out QV.out (WalkArith.wf_i64 ⟨by omega, by omega⟩) HXW.out HCK.out HE.out hLL HROW.out HBV.out HB.out hB7 (Nat.le_refl _) (hI6.keep (fun b hb => Below.heap_alloc _ _ _ hb.2.lt) (fun b hb => ⟨by have := hb.1; simp at this; omega, by have := hb.2.lt; simp; omega⟩)) hlt hown8 hgrow8 (by simpa using hat8)
        case measure => simp [intOf]; omega
    · obtain rfl : k = zs.length := by omega
      have hrow := HROW.out
      have hbv := HBV.out
      rw [List.take_length] at hrow hbv
      have hsm := sm_then HG.out HK.out
      rw [HZS.out] at hsm
      rw [hsm] at hrow hbv
      obtain ⟨ar, cr, hvv, hBs⟩ := isBs_of_owns (n := wr.heap.size) hrow hbv (fun b hb => hb.2.1) (fun g hg => by have := hrow.lt g hg; omega)
      subst hvv
      have HBS := Lib.hid hBs
      have HF := Lib.hid (HBL.out.trans (HB.out.mono HBL.out.size))
      clear hrow hbv hBs HROW HBV HE hsm
      go_wp2
      go_ret
      exact ⟨ar, cr, rfl, HBS.out, HF.out⟩

end Go.Proofs.Ytjebfmcgenhchaa
