/- The walk of MatchSolves. -/
import Derived.Test.YtcbjnfdhghhgeaaCount
import Derived.Test.YtcbjnfdhghhgeaaWMBe
import Derived.Test.YtcbjnfdhghhgeaaFewS
namespace Go.Proofs.Ytcbjnfdhghhgeaa
set_option linter.unusedVariables false
set_option linter.unusedSimpArgs false
open Go.RowKit

theorem rightS_of : ∀ (r : Sb) (l : Int), (r.map Prod.fst).Pairwise (· < ·) → (∀ p ∈ r, l ≤ p.1 ∧ p.1 ≤ 255 ∧ p.2.check = 0 ∧ p.2.head ≠ -1 - p.1) → rightS l r = true := by
  intro r
  induction r with
  | nil => intros; rfl
  | cons q r ih =>
    intro l hp hq
    obtain ⟨x, t⟩ := q
    rw [List.map_cons, List.pairwise_cons] at hp
    have h0 := hq (x, t) (by simp)
    rw [rightS, ih (x + 1) hp.2 (fun p hpr => by
      have h1 := hq p (by simp [hpr])
      have h2 := hp.1 p.1 (List.mem_map.2 ⟨p, hpr, rfl⟩)
      simp only at h2
      exact ⟨by omega, h1.2⟩)]
    simp only at h0
    simp [h0.1, h0.2.1, h0.2.2.1, h0.2.2.2]
/-- What a matcher's substitution is. -/
theorem sm_facts {p t : T} (hp : p.check = 0) (ht : t.check = 0) {M : Sb} (h : p.ext t [] = some M) : KN M ∧ (∀ q ∈ M, q.2.check = 0) ∧ (∀ v, bnd M v = true ↔ v ∈ vars1 p) ∧ rightS 0 (sm M) = true ∧ p.sub (ofS (sm M)) = t ∧ (∀ v, 0 ≤ v → ofS (sm M) v = ofS M v) := by
  have hg := (check_ok hp).2.2
  have hE := (ext_spec hg).1 M h
  have hc : ∀ q ∈ M, q.2.check = 0 := fun q hq => by
    rcases hE.part q hq with h1 | h1
    · simp at h1
    · exact h1 (by intro u hu; simp at hu; subst hu; exact ht)
  have hk : ∀ v, bnd M v = true ↔ v ∈ vars1 p := fun v => by rw [hE.keys]; simp [bnd]
  have hof := fun v h0 => ofS_sm hE.kn (fun q hq => (check_ok (hc q hq)).2.2) v h0
  refine ⟨hE.kn, hc, hk, ?_, ?_, hof⟩
  · refine rightS_of _ _ (sm_rise hE.kn) fun q hq => ?_
    obtain ⟨h1, h2, h3⟩ := sm_mem.1 hq
    have hb := vars1_bound hg ((hk _).1 h1)
    exact ⟨hb.1, hb.2, by rw [h2]; exact hc _ (mem_of_bndN hE.kn h1), h3⟩
  · rw [← ext_some hg h]
    exact sub_congr _ p (Nat.le_refl _) hg (fun v h0 _ => hof v h0)
theorem solves5 {p : T} {u : Sb} (he : appE u p = 0) {s : Sb} {b : Bool} {k : Int} (hR : MtR p (appT u p) s b k) :
    b = true ∧ k = 0 ∧ rightS 0 s = true ∧ appE s p = 0 ∧ appT s p = appT u p ∧ (∀ v ∈ vars1 p, ofS s v = ofS u v) ∧ (∀ q ∈ s, q.1 ∈ vars1 p) ∧ (∀ q ∈ s, q.2.size ≤ 1000000000000) := by
  obtain ⟨hu, hp, e1, hc⟩ := app_ok he
  have hg := (check_ok hp).2.2
  rcases hR with ⟨hb, _⟩ | ⟨hgd, ⟨hn, _⟩ | ⟨M, hM, rfl, rfl, rfl⟩⟩
  · rcases hb with hb | hb
    · exact absurd hp hb
    · rw [e1] at hb; exact absurd hc hb
  · exact absurd e1.symm ((ext_spec hg).2 hn _)
  · obtain ⟨hk, hcM, hkeys, hr, hs, hof⟩ := sm_facts hp hgd.2 hM
    have ha := app_of hr hp (by rw [hs]; exact hgd.2)
    refine ⟨rfl, rfl, hr, ha.1, by rw [ha.2, hs], fun v hv => ?_, fun q hq => ?_, fun q hq => ?_⟩
    · obtain ⟨h1, h2⟩ := (mem_vars' _ _).1 hv
      have := sub_inj_vars (f := ofS (sm M)) (g := ofS u) _ p (Nat.le_refl _) hg (by rw [hs, e1]) (-1 - v) h1 (by omega)
      rw [show -1 - (-1 - v) = v from by omega] at this
      exact this
    · exact (hkeys _).1 (sm_mem.1 hq).1
    · obtain ⟨i, hi⟩ := List.getElem?_of_mem hq
      exact Nat.le_trans (check_ok (rightS_low hr hi).2.2.1).1 (by omega)
theorem args_back {n : Nat} {w w' : World} {ts : List T} {a : Option Addr} {c : Nat} (h : IsArgs n w' ts a c) (hb : Below n w w') : IsArgs n w ts a c :=
  isArgsp_lt.1 ((isArgsp_lt.2 h).keep (fun b hb' => (hb.block b hb').symm) (fun _ h => h))
def SvI (n : Nat) (w : World) (i : Value) (wr : World) : Prop := ∃ k : Nat, k ≤ n ∧ i = .int .i64 k ∧ Below w.heap.size w wr

set_option maxRecDepth 100000 in
set_option maxHeartbeats 8000000 in
theorem matchSolves_walk (p : T) (u : Sb) (a : Option Addr) (c : Nat) (au : Option Addr) (cu : Nat) (w : World) (hpw : (Lit.int .i64 p.head).wf = true) (hA : IsArgs w.heap.size w p.args a c) (hU : IsBs w.heap.size w u au cu) :
    Calls Try.prog 10 #[tm p.head a p.args.length c, .slice au u.length cu] w fun e w' => e = .returned (.bool true) ∧ Below w.heap.size w w' := by
  have HPW := Lib.hid hpw
  have D := Lib.hid ((((Later.below (Below.refl _ w)).and (later_bs hU)).and (later_args hA)).push (Below.refl _ _) p.head a p.args.length c)
  clear hpw hA hU
  go_enter Try.func10, Try.ntmps10
  go_wp2_with fail
  generalize (w.alloc (.cells #[.int .i64 p.head, .slice a p.args.length c] 25)) = w1 at D ⊢
  generalize hb0 : w.heap.size = b0 at D ⊢
  have HB0 := Lib.hid hb0
  clear hb0
  refine (few_any p w1.heap.size a c w1 (Nat.le_refl _) D.out.now.2.1).mono ?_
  rintro e w2 ⟨rfl, hb⟩
  have D2 := Lib.hid (D.out.mv hb)
  clear hb D
  by_cases hp5 : p.size ≤ 500
  case neg =>
    rw [decide_eq_false hp5]
    have HQ := Lib.hid D2.out.now.2.2.2
    clear D2
    go_wp2
    go_ret
    exact ⟨rfl, by rw [HB0.out]; exact HQ.out⟩
  rw [decide_eq_true hp5]
  go_wp2_with fail
  refine (fewS_any u w2.heap.size au cu w2 (Nat.le_refl _) D2.out.now.2.2.1).mono ?_
  rintro e w3 ⟨f1, rfl, hfew, hb⟩
  have D3 := Lib.hid (D2.out.mv hb)
  clear hb D2
  cases f1
  case false =>
    have HQ := Lib.hid D3.out.now.2.2.2
    clear D3 hfew
    go_wp2
    go_ret
    exact ⟨rfl, by rw [HB0.out]; exact HQ.out⟩
  have HUS := Lib.hid (show ∀ x ∈ u, x.2.size ≤ 1000000000000 from fun x hx => Nat.le_trans (hfew rfl x hx) (by omega))
  clear hfew
  obtain ⟨⟨x0, x1⟩, _⟩ := D3.out.now
  go_wp2_with fail
  clear x0 x1
  refine (apply_any u HUS.out p (by omega) w3.heap.size au cu a c w3 (Nat.le_refl _) D3.out.now.2.2.1 HPW.out D3.out.now.2.1).mono ?_
  rintro e w4 ⟨a1, c1, rfl, htw, htA, hb⟩
  have D4 := Lib.hid (D3.out.pushT hb _ a1 c1 htA)
  have HTW := Lib.hid htw
  clear hb htA htw D3
  have hts : (appT u p).size ≤ 100000 := by
    unfold appT
    split
    · unfold endT
      split
      · rename_i h; exact Nat.le_trans (check_ok h).1 (by omega)
      · simp [Z0, T.size, T.sizes]
    · simp [Z0, T.size, T.sizes]
  generalize ht : appT u p = t at D4 HTW hts ⊢
  generalize hf : appE u p = f at ⊢
  have HT := Lib.hid ht
  have HF := Lib.hid hf
  clear ht hf
  by_cases qf : f = 0
  case neg =>
    have hne : (f == 0) = false := by simpa using qf
    go_wp2_with fail
    generalize w4.alloc (tmCells t.head a1 t.args.length c1) = w5 at D4 ⊢
    refine (awake5_any w5).mono ?_
    rintro e w6 ⟨rfl, hb⟩
    have HQ := Lib.hid (D4.out w6 hb).2.2.2.2.2
    clear hb D4
    go_wp2
    go_ret
    exact ⟨rfl, by rw [HB0.out]; exact HQ.out⟩
  subst qf
  obtain ⟨⟨t0, t1⟩, _, ⟨x0, x1⟩, _⟩ := D4.out.now
  go_wp2_with fail
  clear t0 t1 x0 x1
  generalize w4.alloc (tmCells t.head a1 t.args.length c1) = w5 at D4 ⊢
  generalize w4.heap.size = b4 at D4 ⊢
  refine (match_any p t (by omega) hts w5.heap.size a c a1 c1 w5 (Nat.le_refl _) HPW.out HTW.out D4.out.now.2.2.2.1 D4.out.now.2.1).mono ?_
  rintro e w6 ⟨s, b, k, as1, cs1, rfl, hS, hb, hR⟩
  obtain ⟨rfl, rfl, hr, hae, hat, hof, hin, hss⟩ := solves5 HF.out (by rw [HT.out]; exact hR)
  rw [HT.out] at hat
  have D5 := Lib.hid ((D4.out.mv hb).and (later_bs hS))
  have HR := Lib.hid hr
  have HAE := Lib.hid hae
  have HAT := Lib.hid hat
  have HOF := Lib.hid hof
  have HIN := Lib.hid hin
  have HSS := Lib.hid hss
  clear hS hb hR hr hae hat hof hin hss D4
  obtain ⟨_, ⟨t0, t1⟩, _, ⟨x0, x1⟩, _⟩ := D5.out.now
  go_wp2_with fail
  clear t0 t1 x0 x1
  refine (apply_any s HSS.out p (by omega) w6.heap.size as1 cs1 a c w6 (Nat.le_refl _) D5.out.now.1 HPW.out D5.out.now.2.2.2.2.1).mono ?_
  rw [HAE.out, HAT.out]
  rintro e w7 ⟨a2, c2, rfl, _, hbA, hb⟩
  have D6 := Lib.hid (D5.out.pushT hb _ a2 c2 hbA)
  clear hb hbA D5
  obtain ⟨⟨q0, q1⟩, _, _, ⟨t0, t1⟩, _⟩ := D6.out.now
  go_wp2_with fail
  clear t0 t1 q0 q1
  generalize w7.alloc (tmCells t.head a2 t.args.length c2) = w8 at D6 ⊢
  generalize w7.heap.size = b7 at D6 ⊢
  refine (sameAt_any t t rfl (by omega) w8.heap.size a2 c2 a1 c1 w8 (Nat.le_refl _) D6.out.now.2.1 D6.out.now.2.2.2.2.1).mono ?_
  rintro e w9 ⟨rfl, hb⟩
  have D7 := Lib.hid (D6.out.mv hb)
  clear hb D6
  obtain ⟨_, _, _, _, _, ⟨x0, x1⟩, _⟩ := D7.out.now
  go_wp2_with fail
  clear x0 x1
  refine (vars_any p (by omega) w9.heap.size a c w9 (Nat.le_refl _) HPW.out D7.out.now.2.2.2.2.2.2.1).mono ?_
  rintro e w10 ⟨vo, rfl, hvo, hb⟩
  obtain ⟨own, hown⟩ : ∃ own, vars1 p = own := ⟨_, rfl⟩
  rw [show varsOf (T.subs 1 p) = own from hown] at hvo
  obtain ⟨ao, co, rfl, hoI, _⟩ := ints_slice hvo
  have hD := (D7.out.mv hb).and (later_is hoI)
  have HOWN := Lib.hid hown
  have LF := Lib.hid (show ∀ X, Below w10.heap.size w10 X → IsIs w10.heap.size X own ao co ∧ IsBs w10.heap.size X s as1 cs1 ∧ IsBs w10.heap.size X u au cu ∧ Below b0 w X from fun X hX => by
    have h1 := hD X hX
    have h2 := hD.now
    exact ⟨h2.1.below hX, h2.2.2.2.1.below hX, h2.2.2.2.2.2.2.2.2.1.below hX, h1.2.2.2.2.2.2.2.2.2⟩)
  have hl : own.length ≤ co ∧ co ≤ maxLen := ⟨hD.now.1.1, hD.now.1.2.1⟩
  have hl' : s.length ≤ cs1 ∧ cs1 ≤ maxLen := ⟨hD.now.2.2.2.1.1, hD.now.2.2.2.1.2.1⟩
  unfold maxLen at hl hl'
  obtain ⟨hl1, hl2⟩ := hl
  obtain ⟨hl3, hl4⟩ := hl'
  have HBD := Lib.hid (show ∀ z ∈ own, 0 ≤ z ∧ z ≤ 255 from fun z hz => by rw [← hown] at hz; exact vars1_bound (check_ok (app_ok HF.out).2.1).2.2 hz)
  clear hD hb hvo hoI hown D7
  go_wp2
  go_loopw [13] (fun i wr => SvI own.length w10 i wr) (fun i _ => own.length - (intOf i).toNat)
  case atStart => exact ⟨0, Nat.zero_le _, rfl, Below.refl _ _⟩
  case round =>
    obtain ⟨k, hk, rfl, hB⟩ := hrel
    have HB := Lib.hid hB
    have hbz := hB.size
    clear hB
    by_cases hlt : k < own.length
    · have hk0 : (0 : Int) ≤ (k : Int) := Int.natCast_nonneg _
      have hk1 : (k : Int) < (own.length : Int) := by omega
      obtain ⟨b, o, z, rfl, hbn, hz, hc0⟩ := (LF.out wr HB.out).1.elem hlt
      have hmem := List.mem_of_getElem? hz
      obtain ⟨hz0, hz1⟩ := HBD.out z hmem
      have heq := HOF.out z (by rw [HOWN.out]; exact hmem)
      have hxs : (ofS s z).size ≤ 1000000000000 := ofS_size (by omega) HSS.out z
      obtain ⟨x, hx⟩ : ∃ x, ofS s z = x := ⟨_, rfl⟩
      rw [hx] at heq hxs
      have O1 := Lib.hid (show ∀ W, Below wr.heap.size wr W → Calls Try.prog 43 #[.slice as1 s.length cs1, .int .i64 z] W fun e w' => ∃ at_ ct, e = .returned (tm x.head at_ x.args.length ct) ∧ (Lit.int .i64 x.head).wf = true ∧ IsArgs wr.heap.size wr x.args at_ ct ∧ Below W.heap.size W w' from fun W hW => by
        have h := of_any s z wr.heap.size as1 cs1 W hW.size (by omega) (by omega) (((LF.out wr HB.out).2.1.mono hbz).below hW)
        rw [hx] at h
        refine h.mono ?_
        rintro e w' ⟨at_, ct, h1, h2, h3, h4⟩
        exact ⟨at_, ct, h1, h2, args_back h3 (hW.trans (h4.mono hW.size)), h4⟩)
      have O2 := Lib.hid (show ∀ W, Below wr.heap.size wr W → Calls Try.prog 43 #[.slice au u.length cu, .int .i64 z] W fun e w' => ∃ at_ ct, e = .returned (tm x.head at_ x.args.length ct) ∧ (Lit.int .i64 x.head).wf = true ∧ IsArgs wr.heap.size wr x.args at_ ct ∧ Below W.heap.size W w' from fun W hW => by
        have h := of_any u z wr.heap.size au cu W hW.size (by omega) (by omega) (((LF.out wr HB.out).2.2.1.mono hbz).below hW)
        rw [← heq] at h
        refine h.mono ?_
        rintro e w' ⟨at_, ct, h1, h2, h3, h4⟩
        exact ⟨at_, ct, h1, h2, args_back h3 (hW.trans (h4.mono hW.size)), h4⟩)
      have S1 := Lib.hid (show ∀ W, Below wr.heap.size wr W → ∀ a3 c3 a4 c4, (Lit.int .i64 x.head).wf = true → IsArgs wr.heap.size wr x.args a3 c3 → IsArgs wr.heap.size wr x.args a4 c4 → Calls Try.prog 42 #[tm x.head a3 x.args.length c3, tm x.head a4 x.args.length c4] W fun e w' => e = .returned (.bool true) ∧ Below W.heap.size W w' from fun W hW a3 c3 a4 c4 hw h3 h4 => by
        have h := same_any x x hxs wr.heap.size a3 c3 a4 c4 W hW.size hw hw (h3.below hW) (h4.below hW)
        rw [(sameB_iff x x).2 rfl] at h
        exact h)
      have KP := Lib.hid (show ∀ W, Below wr.heap.size wr W → W.cell? ⟨b, o + k, none⟩ = some (.int .i64 z) ∧ Below wr.heap.size wr W from fun W hW => ⟨(hW.cell (Nat.lt_of_lt_of_le hbn hbz)).trans hc0, hW⟩)
      clear hz hmem hx heq hc0
      obtain ⟨k0, _⟩ := KP.out wr (Below.refl _ _)
      go_wp2_with fail
      go_cut [82] from 69 to 82 (fun v82 wx => v82 = .bool false ∧ Below wr.heap.size wr wx)
      case first =>
        refine wp_region_noPanic ?_
        go_region_held3 (fun w' => w'.cell? ⟨b, o + k, none⟩ = some (.int .i64 z) ∧ Below wr.heap.size wr w')
          (first
            | exact KP.out _ (Below.refl _ _)
            | exact KP.out _ (Below.refl _ _).drew
            | exact KP.out _ hB)
          (first
            | (go_at_call 42; refine (S1.out _ (‹_ ∧ Below wr.heap.size wr _›.2) a3 c3 a4 c4 hw3 hA3 hA4).mono ?_; rintro e u2 ⟨rfl, hu⟩; have hB := bl_call (‹_ ∧ Below wr.heap.size wr _›.2) hu; have hfin := hB)
            | (go_at_call 43; with_reducible refine (O1.out _ (‹_ ∧ Below wr.heap.size wr _›.2)).mono ?_; rintro e u1 ⟨a3, c3, rfl, hw3, hA3, hu⟩; have hB := bl_call (‹_ ∧ Below wr.heap.size wr _›.2) hu)
            | (go_at_call 43; with_reducible refine (O2.out _ (‹_ ∧ Below wr.heap.size wr _›.2)).mono ?_; rintro e u1 ⟨a4, c4, rfl, hw4, hA4, hu⟩; have hB := bl_call (‹_ ∧ Below wr.heap.size wr _›.2) hu))
        all_goals
          refine NoPanic.normal ?_
          go_wp2_with fail
          go_meet
          exact ⟨rfl, hfin⟩
      case rest =>
        obtain ⟨rfl, hb⟩ := hcut
        have HB3 := Lib.hid (HB.out.trans (hb.mono hbz))
        clear hb KP k0 O1 O2 S1
        go_wp2
        go_roundw
        case rel => exact ⟨k + 1, by omega, by go_num, HB3.out⟩
        case measure => simp [intOf]; omega
    · obtain rfl : k = own.length := by omega
      go_wp2
      go_loopw [14] (fun i wr => SvI s.length w10 i wr) (fun i _ => s.length - (intOf i).toNat)
      case atStart => exact ⟨0, Nat.zero_le _, rfl, HB.out⟩
      case round =>
        obtain ⟨j, hj, rfl, hB2⟩ := hrel
        have HB2 := Lib.hid hB2
        have hbz2 := hB2.size
        clear hB2
        by_cases hjt : j < s.length
        · have hj0 : (0 : Int) ≤ (j : Int) := Int.natCast_nonneg _
          have hj1 : (j : Int) < (s.length : Int) := by omega
          obtain ⟨b, o, v, t2, at_, ct, rfl, hbn, hsj, hvw, _, hc0, _, _, _⟩ := (LF.out wr HB2.out).2.1.elem (i := j) hjt
          have hin := HIN.out _ (List.mem_of_getElem? hsj)
          rw [HOWN.out] at hin
          simp only [] at hin
          have hbw : b < wr.heap.size := Nat.lt_of_lt_of_le hbn hbz2
          have HINV := Lib.hid hin
          clear hsj hvw hin
          go_wp2_with fail
          refine (in_any v own wr.heap.size ao co wr (Nat.le_refl _) ((LF.out wr HB2.out).1.mono hbz2)).mono ?_
          rintro e w11 ⟨rfl, hb⟩
          rw [decide_eq_true HINV.out]
          have HB3 := Lib.hid (HB2.out.trans (hb.mono hbz2))
          clear hb
          go_wp2
          go_roundw
          case rel => exact ⟨j + 1, by omega, by go_num, HB3.out⟩
          case measure => simp [intOf]; omega
        · obtain rfl : j = s.length := by omega
          go_wp2_with fail
          refine (awake5_any wr).mono ?_
          rintro e w11 ⟨rfl, hb⟩
          have HB3 := Lib.hid (HB2.out.trans (hb.mono hbz2))
          clear hb
          go_wp2_with fail
          refine (sCheck_any s HSS.out w10.heap.size as1 cs1 w11 HB3.out.size (LF.out w11 HB3.out).2.1).mono ?_
          rw [show errS s = 0 from by unfold errS; rw [HR.out]; rfl]
          rintro e w12 ⟨rfl, hb⟩
          have HQ := Lib.hid (LF.out w12 (HB3.out.trans (hb.mono HB3.out.size))).2.2.2
          clear hb
          go_wp2
          go_ret
          exact ⟨rfl, by rw [HB0.out]; exact HQ.out⟩

end Go.Proofs.Ytcbjnfdhghhgeaa
