/- Contracts of the reference's Gather, Tidy, All and Few (layer 5). -/
import Derived.Test.YtcbjnfdhghhgeaaGat
import Derived.Test.YtcbjnfdhghhgeaaAw5
namespace Go.Proofs.Ytcbjnfdhghhgeaa
set_option linter.unusedVariables false
set_option linter.unusedSimpArgs false
open Go.RowKit

def GLPost (r : Option Sb) (w : World) (e : Ending) (w' : World) : Prop :=
  Below w.heap.size w w' ∧ ((∃ M a c, r = some M ∧ e = .returned (.tuple #[.slice a M.length c, .bool true]) ∧ IsBs w'.heap.size w' M a c) ∨ (r = none ∧ e = .returned (.tuple #[.slice none 0 0, .bool false])))

set_option maxRecDepth 100000 in
set_option maxHeartbeats 4000000 in
theorem gatherL_any (ps ts : List T) (hl : ps.length = ts.length) (hps : T.sizes ps ≤ 100000) (hts : T.sizes ts ≤ 100000) (n₀ : Nat) (a : Option Addr) (c : Nat) (a' : Option Addr) (c' : Nat) (w : World) (hn : n₀ ≤ w.heap.size) (hA : IsArgs n₀ w ps a c) (hA' : IsArgs n₀ w ts a' c') :
    Calls Try.prog 65 #[.slice a ps.length c, .slice a' ts.length c', .slice none 0 0] w (GLPost (T.exts ps ts []) w) := by
  have hlc : ps.length ≤ c ∧ c ≤ maxLen := ⟨hA.1, hA.2.1⟩
  have hlc' : ts.length ≤ c' ∧ c' ≤ maxLen := ⟨hA'.1, hA'.2.1⟩
  unfold maxLen at hlc hlc'
  obtain ⟨hl1, hl2⟩ := hlc
  obtain ⟨hl3, hl4⟩ := hlc'
  have HA := Lib.hid hA
  have HA' := Lib.hid hA'
  generalize hr : T.exts ps ts [] = r
  have HR := Lib.hid hr
  have HL := Lib.hid hl
  rw [hl] at hl1 ⊢
  clear hA hA' hr hl
  go_enter Try.func65, Try.ntmps65
  go_wp2
  go_loopw [2, 8, 9, 10] (fun s i _ _ wr => GbI n₀ w.heap.size ps ts [] w s i wr) (fun _ i _ _ _ => ts.length - (intOf i).toNat)
  case atStart => exact ⟨0, [], Nat.zero_le _, rfl, by simp [T.exts], ⟨[], World.ownsRow_nil _ _ _ _, trivial⟩, keepT_of_below (Below.refl _ _) (Nat.le_refl _)⟩
  case round =>
    obtain ⟨k, M1, hk, rfl, hM1, hGR, hK⟩ := hrel
    have HM1 := Lib.hid hM1
    have HGR := Lib.hid hGR
    have HK := Lib.hid hK
    have hbz := hK.1.size
    clear hM1 hGR hK
    by_cases hlt2 : k < ts.length
    · have hk0 : (0 : Int) ≤ (k : Int) := Int.natCast_nonneg _
      have hk2 : (k : Int) < (ts.length : Int) := by omega
      have hbel : Below n₀ w wr := HK.out.1.mono hn
      obtain ⟨b, o, p1, a1, c1', rfl, hbn, hp1, hpw1, hc1, hc2, hA1⟩ := (HA.out.below hbel).elem (i := k) (by rw [HL.out]; exact hlt2)
      obtain ⟨b2, o2, t1, a2, c2, rfl, hbn2, ht1, htw1, hd1, hd2, hA2⟩ := (HA'.out.below hbel).elem (i := k) hlt2
      have HP1 := Lib.hid hp1
      have HT1' := Lib.hid ht1
      have hsz1 := sizes_take_lt hp1
      have hszt := sizes_take_lt ht1
      have hln := T.exts_len _ _ _ _ HM1.out
      simp only [List.length_nil] at hln
      have hbw : b < wr.heap.size := by omega
      have hbw2 : b2 < wr.heap.size := by omega
      have CALL := Lib.hid (gather_any p1.size p1 (Nat.le_refl _) (by omega) t1 (by omega) M1 (by omega) (fun q hq => by
          rcases hln.2 q hq with h | h
          · simp at h
          · have h3 := T.sizes_append (ts.take k) (ts.drop k)
            rw [List.take_append_drop] at h3
            omega) n₀ w.heap.size a1 c1' a2 c2 u2 wr.drew hn (by show w.heap.size ≤ wr.heap.size; omega) (HGR.out.below (by omega) (Below.refl _ _).drew) hpw1 htw1 (hA1.below (Below.refl _ _).drew) (hA2.below (Below.refl _ _).drew))
      clear hp1 ht1 hsz1 hszt hln hA1 hA2 hpw1 htw1 hbel
      go_wp2_with fail
      go_cut [9, 10] from 17 to 29 (fun v9 v10 wx => Gat2 n₀ w.heap.size (p1.ext t1 M1) wr v9 v10 wx)
      case first =>
        refine wp_region_noPanic ?_
        go_region_law (go_simp; go_at_call 97; refine CALL.out.mono ?_; rintro e w3 ⟨hk3, h3⟩; obtain ⟨vq, bq, rfl⟩ : ∃ vq bq, e = .returned (.tuple #[vq, .bool bq]) := gpost_form ⟨hk3, h3⟩)
        all_goals
          refine NoPanic.normal ?_
          go_wp2_with fail
          go_meet
          exact ⟨_, hk3, h3, rfl⟩
      case rest =>
      obtain ⟨e, hk3, h3, he⟩ := hcut
      generalize wc = w3 at *
      have hst := T.exts_take ps ts k p1 t1 [] HP1.out HT1'.out
      rw [HM1.out] at hst
      have HST := Lib.hid hst
      have HK3 := Lib.hid (HK.out.trans ((keepT_of_below (Below.refl _ _).drew (by omega)).trans hk3))
      have hz3 := hk3.1.size
      have hz3' : wr.heap.size ≤ w3.heap.size := hz3
      clear hst hk3 CALL hc1 hc2 hd1 hd2 hz3
      rcases h3 with ⟨M2, v2, hM2, rfl, hG2⟩ | ⟨hM2, a3, n3, c3, rfl⟩ <;> cases he
      · obtain ⟨a3, c3, rfl, _⟩ := hG2.bs (by omega)
        have HM2 := Lib.hid hM2
        have HGG := Lib.hid hG2
        clear hM2 hG2
        go_wp2
        go_roundw
        case rel => exact ⟨k + 1, M2, by have := HL.out; omega, by go_num, HST.out.trans HM2.out, HGG.out, HK3.out⟩
        case measure => simp [intOf]; omega
      · have hr := T.exts_none ps ts (k + 1) [] (HST.out.trans hM2)
        rw [HR.out] at hr
        subst hr
        clear hM2 HR
        go_wp2
        refine bodyPost_ret (v := .tuple #[.slice none 0 0, .bool false]) (by simp [results, Try.results65, go_sem]) rfl ?_
        exact ⟨HK3.out.1, .inr ⟨rfl, rfl⟩⟩
    · obtain rfl : k = ts.length := by have := HL.out; omega
      have hM1 := HM1.out
      rw [List.take_length, show ps.take ts.length = ps from by rw [← HL.out, List.take_length], HR.out] at hM1
      subst hM1
      obtain ⟨a4, c4, rfl, hI⟩ := HGR.out.bs (by omega)
      have HI := Lib.hid hI
      clear HM1 HR hI
      go_wp2
      refine bodyPost_ret (v := .tuple #[.slice a4 M1.length c4, .bool true]) (by simp [results, Try.results65, go_sem]) rfl ?_
      exact ⟨HK.out.1, .inl ⟨M1, a4, c4, rfl, rfl, HI.out⟩⟩

/-! ### Tidy -/
theorem thenT_nil' {M : Sb} (hg : ∀ q ∈ M, bad (T.subs 1 q.2) = false) (hk : KN M) {v : Int} (h0 : 0 ≤ v) : thenT M [] v = ofS M v := by
  cases hb : bnd M v
  · unfold thenT
    rw [ofS_unbound hb, vt_sub h0]
    rfl
  · exact thenT_nil hg hk hb
theorem tid_sm {M : Sb} (hg : ∀ q ∈ M, bad (T.subs 1 q.2) = false) (hk : KN M) (hb : ∀ q ∈ M, 0 ≤ q.1 ∧ q.1 ≤ 255) : thenL M [] allV = sm M := by
  rw [thenL_eq]
  refine sb_ext ?_ (sm_rise hk) fun p => ?_
  · rw [List.map_map, show (Prod.fst ∘ fun v => (v, thenT M [] v)) = id from rfl, List.map_id]
    exact allV_rising.filter _
  · simp only [List.mem_map, List.mem_filter, decide_eq_true_iff, sm_mem]
    constructor
    · rintro ⟨v, ⟨hv, hne⟩, rfl⟩
      have h0 := mem_allV.1 hv
      have e := thenT_nil' hg hk (v := v) h0.1
      rw [e] at hne ⊢
      refine ⟨?_, rfl, hne⟩
      cases hbv : bnd M v
      · rw [ofS_unbound hbv] at hne
        exact absurd rfl hne
      · rfl
    · rintro ⟨h1, h2, h3⟩
      have h0 := hb _ (mem_of_bndN hk h1)
      have e := thenT_nil' hg hk (v := p.1) h0.1
      exact ⟨p.1, ⟨mem_allV.2 h0, by rw [e, ← h2]; exact h3⟩, by rw [e, ← h2]⟩
def TiI (M : Sb) (w : World) (out i : Value) (wr : World) : Prop := ∃ k : Nat, k ≤ 256 ∧ i = .int .i64 k ∧ (thenL M [] (allV.take k)).length ≤ k ∧ GRow w.heap.size w.heap.size (thenL M [] (allV.take k)) out wr ∧ Below w.heap.size w wr
theorem allV_at {k : Nat} (h : k < 256) : allV[k]? = some (k : Int) := by
  unfold allV
  rw [List.getElem?_map, List.getElem?_range h]
  rfl
theorem allV_tk : allV.take 256 = allV := List.take_of_length_le (by simp [allV])

set_option maxRecDepth 100000 in
set_option maxHeartbeats 4000000 in
theorem tidy_any (M : Sb) (hk : KN M) (hc : ∀ q ∈ M, q.2.check = 0) (hb : ∀ q ∈ M, 0 ≤ q.1 ∧ q.1 ≤ 255) (n₀ : Nat) (a : Option Addr) (c : Nat) (w : World) (hn : n₀ ≤ w.heap.size) (hS : IsBs n₀ w M a c) :
    Calls Try.prog 66 #[.slice a M.length c] w (SmPost (sm M) w) := by
  have hg : ∀ q ∈ M, bad (T.subs 1 q.2) = false := fun q hq => (check_ok (hc q hq)).2.2
  have HS := Lib.hid hS
  have HSM := Lib.hid (tid_sm hg hk hb)
  have HTT := Lib.hid (fun (v : Int) (h0 : 0 ≤ v) => thenT_nil' hg hk h0)
  clear hS hk hc hb hg
  obtain ⟨i0, hi, hz0, hz1, hz2⟩ := info_parts infoBind
  go_enter Try.func66, Try.ntmps66
  go_wp2
  go_loopw [3, 4, 5] (fun out i _ wr => TiI M w out i wr) (fun _ i _ _ => 256 - (intOf i).toNat)
  case atStart => exact ⟨0, by omega, rfl, by simp [thenL], ⟨[], World.ownsRow_nil _ _ _ _, trivial⟩, Below.refl _ _⟩
  case round =>
    obtain ⟨k, hk, rfl, hLL, hGR, hB⟩ := hrel
    have HGR := Lib.hid hGR
    have HB := Lib.hid hB
    have hbz := hB.size
    clear hGR hB
    by_cases hlt : k < 256
    · have hk0 : (0 : Int) ≤ (k : Int) := Int.natCast_nonneg _
      have hk1 : (k : Int) ≤ 255 := by omega
      have HZ := Lib.hid (allV_at hlt)
      have HX := Lib.hid (HTT.out (k : Int) hk0)
      go_wp2_with fail
      refine (refOf_any M (k : Int) n₀ a c wr (by omega) (by omega) (by omega) (HS.out.below (HB.out.mono hn))).mono ?_
      rintro e w2 ⟨ax, cx, rfl, hxw, hxA, hb2⟩
      obtain ⟨x, hx⟩ : ∃ x, ofS M (k : Int) = x := ⟨_, rfl⟩
      rw [hx] at HX hxw hxA ⊢
      have HXW := Lib.hid hxw
      have HXA := Lib.hid hxA
      have HB2 := Lib.hid hb2
      have hz2' := hb2.size
      clear hx hxw hxA hb2
      have hB3 : ∀ ob, Below wr.heap.size wr (w2.alloc ob) := fun ob => HB2.out.alloc hz2' _
      by_cases qv : x.head = -1 - (k : Int)
      · have hqe : (x.head == -1 - (k : Int)) = true := by simpa using qv
        have QV := Lib.hid qv
        have HB3 := Lib.hid hB3
        clear qv hB3
        go_wp2
        go_roundw
        case rel =>
          have hst : thenL M [] (allV.take (k + 1)) = thenL M [] (allV.take k) := by rw [thenL_step HZ.out, HX.out, if_pos QV.out, List.append_nil]
          refine ⟨k + 1, by omega, by go_num, by rw [hst]; omega, by rw [hst]; exact HGR.out.below (by omega) (HB3.out _), HB.out.trans ((HB3.out _).mono hbz)⟩
        case measure => simp [intOf]; omega
      · have hqe : (x.head == -1 - (k : Int)) = false := by simpa using qv
        have QV := Lib.hid qv
        have HB3 := Lib.hid hB3
        obtain ⟨xs, hrow, hbv⟩ := HGR.out.below (by omega) (hB3 (tmCells x.head ax x.args.length cx))
        have HBV := Lib.hid hbv
        have hkm : (thenL M [] (allV.take k)).length + 1 ≤ maxLen := by unfold maxLen; omega
        clear qv hB3 hbv
        go_wp2_with (first | (at_builtin; refine wpList_append_lies _ (by rfl) _ _ 22 (by rfl) w.heap.size 43 i0 _ 3 40 Try.underlying22 hi hz0 hz1 hz2 rfl (by omega) _ _ xs (by rfl) (hrow.alloc _) ⟨w2.heap.size + 1, 0, none⟩ 1 1 [.int .i64 (k : Int), .int .i64 x.head, .slice ax x.args.length cx] (by rfl) (by rfl) (by have h := World.news_of_block (cs := #[.int .i64 (k : Int), .int .i64 x.head, .slice ax x.args.length cx]) (t := 43) (fr := (0, 0)) (heap_alloc_new (w2.alloc (tmCells x.head ax x.args.length cx)) _); simpa using h) (by simp [Value.oneCell']) (by omega) hkm (by omega) (by simp; omega) (w2.heap.size + 1 + 1) (by simp) ?_; intro g cap w8 hown8 hgrow8 hat8 hlt8) | go_in)
        go_roundw
        case rel =>
          have hst : thenL M [] (allV.take (k + 1)) = thenL M [] (allV.take k) ++ [((k : Int), x)] := by rw [thenL_step HZ.out, HX.out, if_neg QV.out]
          have hK8 := (keepT_grown (base := w.heap.size) (hrow.alloc _) hgrow8 (by simp; omega)).1
          have hB4 : Below w.heap.size wr w8 := (((HB3.out (tmCells x.head ax x.args.length cx)).mono hbz).alloc (by simp; omega) _).trans hK8
          have hB5 : Below w.heap.size (w2.alloc (tmCells x.head ax x.args.length cx)) w8 := ((Below.refl _ _).alloc (by simp; omega) _).trans hK8
          have hB6 : Below w.heap.size w2 w8 := ((Below.refl _ _).alloc (by omega) _).trans hB5
          refine ⟨k + 1, by omega, by go_num, by rw [hst, List.length_append]; simp; omega, ⟨xs ++ [.int .i64 (k : Int), .int .i64 x.head, .slice ax x.args.length cx], by rw [hst, List.length_append]; exact hown8, ?_⟩, HB.out.trans hB4⟩
          rw [hst]
          exact BVals.snoc (WalkArith.wf_i64 ⟨by omega, by omega⟩) HXW.out (isArgsp_lt.2 ((HXA.out.mono hn).below hB6)) (HBV.out.keep (fun b hb => hB5.block b hb) (fun _ h => h))
        case measure => simp [intOf]; omega
    · obtain rfl : k = 256 := by omega
      have hGR := HGR.out
      rw [allV_tk, HSM.out] at hGR
      obtain ⟨ar, cr, rfl, hI⟩ := hGR.bs hbz
      have HI := Lib.hid hI
      clear hGR hI HGR
      go_wp2
      go_ret
      exact ⟨ar, cr, rfl, HI.out, HB.out⟩

end Go.Proofs.Ytcbjnfdhghhgeaa
