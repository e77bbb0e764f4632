/- Contracts of match's notValid, All, Match, Variant. -/
import Derived.Test.YtjebfmcgenhchaaMt2
namespace Go.Proofs.Ytjebfmcgenhchaa
set_option linter.unusedVariables false
set_option linter.unusedSimpArgs false
open Go.RowKit Go.Maps

theorem mNotValid_any (t : T) (ht : t.size ≤ 1000000) (n₀ : Nat) (a : Option Addr) (c : Nat) (w : World) (hn : n₀ ≤ w.heap.size) (hwf : (Lit.int .i64 t.head).wf = true) (hA : IsArgs n₀ w t.args a c) :
    Calls Try.prog 60 #[tm t.head a t.args.length c] w fun e w' => e = .returned (.bool (decide (t.check ≠ 0))) ∧ Below w.heap.size w w' := by
  have hb : Below w.heap.size w (w.alloc (tmCells t.head a t.args.length c)) := (Below.refl _ _).alloc (Nat.le_refl _) _
  have CC := Lib.hid (check_any t ht n₀ a c (w.alloc (tmCells t.head a t.args.length c)) (by simp; omega) hwf (hA.below (hb.mono hn)))
  have HB := Lib.hid hb
  clear hb hA
  go_enter Try.func60, Try.ntmps60
  go_wp2_with fail
  refine CC.out.mono ?_
  rintro e w2 ⟨rfl, hb2⟩
  have HB2 := Lib.hid (HB.out.trans (hb2.mono (by simp)))
  clear hb2
  cases hd : decide (t.check ≠ 0)
  · have hz : t.check = 0 := by simpa using hd
    have HZ := Lib.hid hz
    rw [hz]
    have HD := Lib.hid (show decide (t.check ≠ 0) = false from hd)
    clear hd hz
    go_wp2
    go_ret
    refine ⟨?_, HB2.out⟩
    first | (rw [HD.out]; rfl) | (simp [HZ.out])
  · have hz : (t.check == 0) = false := by simpa using hd
    obtain ⟨k, hk⟩ : ∃ k, t.check = k := ⟨_, rfl⟩
    rw [hk] at hz ⊢
    have HD := Lib.hid (show decide (t.check ≠ 0) = true from by rw [hk]; rw [hk] at hd; exact hd)
    clear hd hk
    go_wp2
    go_ret
    refine ⟨?_, HB2.out⟩
    have h2 : (k != 0) = true := by simp [bne, hz]
    have h3 : t.check ≠ 0 := of_decide_eq_true HD.out
    simp [h3, hz]
    try exact h2
    try simpa using h2

abbrev nvFnM : Value := .func (.func 60) #[] #[]

set_option maxRecDepth 100000 in
set_option maxHeartbeats 2000000 in
theorem mIndex_any (ts : List T) (hts : ∀ t ∈ ts, t.size ≤ 1000000) (n₀ : Nat) (a : Option Addr) (c : Nat) (w : World) (hn : n₀ ≤ w.heap.size) (hA : IsArgs n₀ w ts a c) :
    Calls Try.prog 91 #[.slice a ts.length c, nvFnM] w fun e w' => ∃ j : Int, e = .returned (.int .i64 j) ∧ decide (0 ≤ j) = badL ts ∧ Below w.heap.size w w' := by
  have hlc : ts.length ≤ c ∧ c ≤ maxLen := ⟨hA.1, hA.2.1⟩
  unfold maxLen at hlc
  obtain ⟨hl1, hl2⟩ := hlc
  have HA := Lib.hid hA
  have HT := Lib.hid hts
  clear hA hts
  go_enter Try.func91, Try.ntmps91
  go_wp2
  go_loopw [8] (fun i wr => IdxI ts w i wr) (fun i _ => ts.length - (intOf i).toNat)
  case atStart => exact ⟨0, Nat.zero_le _, rfl, by simp, Below.refl _ _⟩
  case round =>
    obtain ⟨k, hk, rfl, hbd, hB⟩ := hrel
    have HBD := Lib.hid hbd
    have HB := Lib.hid hB
    have hbz := hB.size
    clear hbd hB
    by_cases hlt : k < ts.length
    · obtain ⟨b, o, s, a', c', rfl, hbn, hs, hswf, hc1, hc2, hA'⟩ := (HA.out.below (HB.out.mono hn)).elem (i := k) hlt
      have hk0 : (0 : Int) ≤ (k : Int) := Int.natCast_nonneg _
      have hk1 : (k : Int) < (ts.length : Int) := by omega
      have hbw : b < wr.heap.size := by omega
      have CN := Lib.hid (mNotValid_any s (HT.out s (List.mem_of_getElem? hs)) n₀ a' c' wr (by omega) hswf hA')
      have hst : badL (ts.drop k) = (decide (s.check ≠ 0) || badL (ts.drop (k + 1))) := by
        obtain ⟨hkl, hke⟩ := List.getElem?_eq_some_iff.1 hs
        rw [List.drop_eq_getElem_cons hkl, hke]; rfl
      have HSTEP := Lib.hid hst
      clear hs hswf hA' hst
      go_wp2_with fail
      refine CN.out.mono ?_
      rintro e w2 ⟨rfl, hb2⟩
      have HB2 := Lib.hid (HB.out.trans (hb2.mono hbz))
      clear hb2
      cases hd : decide (s.check ≠ 0)
      · have H0 := Lib.hid (show badL (ts.drop k) = badL (ts.drop (k + 1)) from by rw [HSTEP.out, hd]; rfl)
        clear hd
        go_wp2
        go_roundw
        case rel => exact ⟨k + 1, by omega, by go_num, HBD.out.trans H0.out, HB2.out⟩
        case measure => simp [intOf]; omega
      · have H0 := Lib.hid (show badL ts = true from by rw [HBD.out, HSTEP.out, hd]; rfl)
        clear hd
        go_wp2
        go_ret
        exact ⟨(k : Int), rfl, by rw [H0.out]; simp, HB2.out⟩
    · obtain rfl : k = ts.length := by omega
      have H0 := Lib.hid (show badL ts = false from by rw [HBD.out, List.drop_of_length_le (Nat.le_refl _)]; rfl)
      go_wp2
      go_ret
      exact ⟨-1, rfl, by rw [H0.out]; rfl, HB.out⟩

theorem mContains_any (ts : List T) (hts : ∀ t ∈ ts, t.size ≤ 1000000) (n₀ : Nat) (a : Option Addr) (c : Nat) (w : World) (hn : n₀ ≤ w.heap.size) (hA : IsArgs n₀ w ts a c) :
    Calls Try.prog 59 #[.slice a ts.length c, nvFnM] w fun e w' => e = .returned (.bool (badL ts)) ∧ Below w.heap.size w w' := by
  have CI := Lib.hid (mIndex_any ts hts n₀ a c w hn hA)
  clear hA hts
  go_enter Try.func59, Try.ntmps59
  go_wp2_with fail
  refine CI.out.mono ?_
  rintro e w2 ⟨j, rfl, hj, hb⟩
  have HJ := Lib.hid hj
  have HB := Lib.hid hb
  clear hj hb
  go_wp2
  go_ret
  exact ⟨by rw [← HJ.out]; rfl, HB.out⟩

theorem run_makeMatcher (w : World) : (Instr.makeMap 80 none).run Try.prog w = .ok (.map (some w.heap.size)) (w.alloc (.map #[] 0)) := by
  simp [Instr.makeMap, run_underlying Try.underlying80, asInt, asIntOf, Result.andThen]

/-- What All answers, as a relation. -/
def MatR (ps ts : List T) (s : Sb) (b : Bool) (k : Int) : Prop :=
  ((ps.length ≠ ts.length ∨ badL ps = true ∨ badL ts = true) ∧ s = [] ∧ b = false ∧ k = 1) ∨
  ((ps.length = ts.length ∧ badL ps = false ∧ badL ts = false) ∧ ((T.exts ps ts [] = none ∧ s = [] ∧ b = false ∧ k = 0) ∨ ∃ M, T.exts ps ts [] = some M ∧ s = sm M ∧ b = true ∧ k = 0))
def MatPost (ps ts : List T) (w : World) (e : Ending) (w' : World) : Prop := ∃ (s : Sb) (b : Bool) (k : Int), MatR ps ts s b k ∧ SBPost s b k w e w'
theorem badL_false {ts : List T} (h : badL ts = false) : ∀ t ∈ ts, t.check = 0 := by
  intro t ht
  unfold badL at h
  rw [List.any_eq_false] at h
  simpa using h t ht
theorem tab_empty (n₀ : Nat) (w : World) : TabR n₀ (w.alloc (.map #[] 0)) w.heap.size [] :=
  ⟨.map [], World.ownsMap_made w Try.prog 3 heldR, fun v _ => rfl, fun v hv => by simp [bnd] at hv⟩
theorem exts_facts {ps ts : List T} (hl : ps.length = ts.length) (hp : badL ps = false) (ht : badL ts = false) {M : Sb} (h : T.exts ps ts [] = some M) : KN M ∧ (∀ q ∈ M, q.2.check = 0) ∧ (∀ q ∈ M, 0 ≤ q.1 ∧ q.1 ≤ 255) := by
  have hg : ∀ p ∈ ps, bad (T.subs 1 p) = false := fun p hp' => (check_ok (badL_false hp p hp')).2.2
  have hE := (exts_spec _ ps (Nat.le_refl _) hg ts [] hl (by simp [KN])).1 M h
  refine ⟨hE.kn, fun q hq => ?_, fun q hq => ?_⟩
  · rcases hE.part q hq with h1 | h1
    · simp at h1
    · exact h1 (badL_false ht)
  · have hb : bnd M q.1 = true := bnd_mem.2 (List.mem_map.2 ⟨q, hq, rfl⟩)
    rcases (hE.keys q.1).1 hb with h1 | ⟨p, hp', h1⟩
    · simp [bnd] at h1
    · exact vars1_bound (hg p hp') h1

def MaI (n₀ B : Nat) (ps ts : List T) (wL : World) (i : Value) (wr : World) : Prop :=
  ∃ (k : Nat) (M1 : Sb), k ≤ ps.length ∧ i = .int .i64 k ∧ T.exts (ps.take k) (ts.take k) [] = some M1 ∧ TabR n₀ wr B M1 ∧ wL.grownBy wr (some B)

set_option maxRecDepth 100000 in
set_option maxHeartbeats 4000000 in
theorem matAll_any (ps ts : List T) (hps : T.sizes ps ≤ 100000) (hts : T.sizes ts ≤ 100000) (n₀ : Nat) (a : Option Addr) (c : Nat) (a' : Option Addr) (c' : Nat) (w : World) (hn : n₀ ≤ w.heap.size) (hA : IsArgs n₀ w ps a c) (hA' : IsArgs n₀ w ts a' c') :
    Calls Try.prog 31 #[.slice a ps.length c, .slice a' ts.length c'] w (MatPost ps ts w) := by
  have hlc : ps.length ≤ c ∧ c ≤ maxLen := ⟨hA.1, hA.2.1⟩
  have hlc' : ts.length ≤ c' ∧ c' ≤ maxLen := ⟨hA'.1, hA'.2.1⟩
  unfold maxLen at hlc hlc'
  obtain ⟨hl1, hl2⟩ := hlc
  obtain ⟨hl3, hl4⟩ := hlc'
  have LS := Lib.hid (show ∀ W, Below w.heap.size w W → IsArgs n₀ W ps a c ∧ IsArgs n₀ W ts a' c' ∧ n₀ ≤ W.heap.size from fun W hW => ⟨hA.below (hW.mono hn), hA'.below (hW.mono hn), Nat.le_trans hn hW.size⟩)
  have HPS := Lib.hid (show ∀ t ∈ ps, t.size ≤ 1000000 from fun t ht => by obtain ⟨i, hi⟩ := List.getElem?_of_mem ht; have := sizes_take_lt hi; omega)
  have HTS := Lib.hid (show ∀ t ∈ ts, t.size ≤ 1000000 from fun t ht => by obtain ⟨i, hi⟩ := List.getElem?_of_mem ht; have := sizes_take_lt hi; omega)
  clear hA hA'
  by_cases hl : ps.length = ts.length
  case neg =>
    have hne : ((ps.length : Int) == (ts.length : Int)) = false := by rw [beq_eq_false_iff_ne]; intro e; exact hl (by omega)
    have hnb : ((ps.length : Int) != (ts.length : Int)) = true := by rw [bne, hne]; rfl
    have HL := Lib.hid hl
    clear hl
    go_enter Try.func31, Try.ntmps31
    go_wp2
    refine bodyPost_ret (v := .tuple #[.slice none 0 0, .bool false, .int .i64 1]) (by simp [results, Try.results31, go_sem]) rfl ?_
    exact ⟨[], false, 1, .inl ⟨.inl HL.out, rfl, rfl, rfl⟩, none, 0, rfl, IsBs.nil _ _ _ (by simp [maxLen]), Below.refl _ _⟩
  have HL := Lib.hid hl
  have CP : Calls Try.prog 59 #[.slice a ts.length c, nvFnM] w fun e w' => e = .returned (.bool (badL ps)) ∧ Below w.heap.size w w' := by
    have := mContains_any ps HPS.out n₀ a c w hn (LS.out w (Below.refl _ _)).1
    rw [hl] at this
    exact this
  have HCP := Lib.hid CP
  rw [hl] at hl1 ⊢
  clear hl CP
  have hmm := run_makeMatcher
  go_enter Try.func31, Try.ntmps31
  go_wp2_with fail
  refine HCP.out.mono ?_
  rintro e w1 ⟨rfl, hb⟩
  have HB1 := Lib.hid hb
  clear hb HCP
  cases q1 : badL ps
  case true =>
    have Q1 := Lib.hid q1
    clear q1
    go_wp2
    refine bodyPost_ret (v := .tuple #[.slice none 0 0, .bool false, .int .i64 1]) (by simp [results, Try.results31, go_sem]) rfl ?_
    exact ⟨[], false, 1, .inl ⟨.inr (.inl Q1.out), rfl, rfl, rfl⟩, none, 0, rfl, IsBs.nil _ _ _ (by simp [maxLen]), HB1.out⟩
  have Q1 := Lib.hid q1
  clear q1
  go_wp2_with fail
  have ls := LS.out w1 HB1.out
  refine (mContains_any ts HTS.out n₀ a' c' w1 ls.2.2 ls.2.1).mono ?_
  clear ls
  rintro e w2 ⟨rfl, hb⟩
  have HB2 := Lib.hid (HB1.out.trans (hb.mono HB1.out.size))
  clear hb HB1
  cases q2 : badL ts
  case true =>
    have Q2 := Lib.hid q2
    clear q2
    go_wp2
    refine bodyPost_ret (v := .tuple #[.slice none 0 0, .bool false, .int .i64 1]) (by simp [results, Try.results31, go_sem]) rfl ?_
    exact ⟨[], false, 1, .inl ⟨.inr (.inr Q2.out), rfl, rfl, rfl⟩, none, 0, rfl, IsBs.nil _ _ _ (by simp [maxLen]), HB2.out⟩
  have Q2 := Lib.hid q2
  clear q2
  have HB3 := Lib.hid (HB2.out.alloc HB2.out.size (.map #[] 0))
  have HTE := Lib.hid (tab_empty n₀ w2)
  have hnB : n₀ ≤ w2.heap.size := (LS.out w2 HB2.out).2.2
  have hwB : w.heap.size ≤ w2.heap.size := HB2.out.size
  go_wp2
  have hsz3 : (w2.alloc (.map #[] 0)).heap.size = w2.heap.size + 1 := by simp
  generalize w2.alloc (.map #[] 0) = wL at HB3 HTE hsz3 ⊢
  generalize hBB : w2.heap.size = B at HTE hnB hsz3 hwB ⊢
  clear hBB
  clear hmm
  go_loopw [8, 9, 26] (fun _ _ i wr => MaI n₀ B ps ts wL i wr) (fun _ _ i _ => ts.length - (intOf i).toNat)
  case atStart => exact ⟨0, [], Nat.zero_le _, rfl, by simp [T.exts], HTE.out, grown_of_below (Below.refl _ _)⟩
  case round =>
    obtain ⟨k, M1, hk, rfl, hM1, hT, hG⟩ := hrel
    have HM1 := Lib.hid hM1
    have HT := Lib.hid hT
    have HG := Lib.hid hG
    have hbz := hG.size
    clear hM1 hT hG
    by_cases hlt2 : k < ts.length
    · have hk0 : (0 : Int) ≤ (k : Int) := Int.natCast_nonneg _
      have hk2 : (k : Int) < (ts.length : Int) := by omega
      have hbel : Below n₀ wL wr := grown_below HG.out hnB (by omega)
      obtain ⟨b, o, p1, a1, c1, rfl, hbn, hp1, hpw1, hc1, hc2, hA1⟩ := ((LS.out wL HB3.out).1.below hbel).elem (i := k) (by rw [HL.out]; exact hlt2)
      obtain ⟨b2, o2, t1, a2, c2, rfl, hbn2, ht1, htw1, hd1, hd2, hA2⟩ := ((LS.out wL HB3.out).2.1.below hbel).elem (i := k) hlt2
      have HP1 := Lib.hid hp1
      have HT1' := Lib.hid ht1
      have hsz1 := sizes_take_lt hp1
      have hszt := sizes_take_lt ht1
      have hln := T.exts_len _ _ _ _ HM1.out
      simp only [List.length_nil] at hln
      have CALL := Lib.hid (show ∀ W, Below wr.heap.size wr W → Calls Try.prog 61 #[.map (some B), tm p1.head a1 p1.args.length c1, tm t1.head a2 t1.args.length c2] W (ExtPost n₀ B (p1.ext t1 M1) W) from fun W hW =>
        extend_any p1.size p1 (Nat.le_refl _) (by omega) t1 (by omega) M1 (by omega) (fun q hq => by
          rcases hln.2 q hq with h | h
          · simp at h
          · have h3 := T.sizes_append (ts.take k) (ts.drop k)
            rw [List.take_append_drop] at h3
            omega) n₀ B a1 c1 a2 c2 W hnB (HT.out.below (by omega) hW) hpw1 htw1 (hA1.below (hW.mono (by omega))) (hA2.below (hW.mono (by omega))))
      have hbw2 : b2 < wr.heap.size := by omega
      have hbw : b < wr.heap.size := by omega
      clear hp1 ht1 hsz1 hszt hln hA1 hA2 hpw1 htw1 hbel
      go_wp2_with fail
      have hB1 : Below wr.heap.size wr (wr.alloc (.cells #[.int .i64 p1.head, .slice a1 p1.args.length c1] 24)) := (Below.refl _ _).alloc (Nat.le_refl _) _
      have HB1 := Lib.hid hB1
      have e1 := (hB1.cell (p := ⟨b2, o2 + k * 2, none⟩) (by simp; omega)).trans hd1
      have e2 := (hB1.cell (p := ⟨b2, o2 + k * 2 + 1, none⟩) (by simp; omega)).trans hd2
      have v0 : (wr.alloc (.cells #[.int .i64 p1.head, .slice a1 p1.args.length c1] 24)).cell? ⟨wr.heap.size, 0, none⟩ = some (.int .i64 p1.head) := by simp [go_sem]
      have v1 : (wr.alloc (.cells #[.int .i64 p1.head, .slice a1 p1.args.length c1] 24)).cell? ⟨wr.heap.size, 1, none⟩ = some (.slice a1 p1.args.length c1) := by simp [go_sem]
      clear hB1 hd1 hd2 hc1 hc2
      generalize wr.alloc (.cells #[.int .i64 p1.head, .slice a1 p1.args.length c1] 24) = wv at HB1 e1 e2 v0 v1 ⊢
      generalize wr.heap.size = bv at v0 v1 ⊢
      go_still_tail 6, (by kernel_rfl)
      change wpList _ _ _ _ _ wv.drew
      go_wp2_with fail
      refine (CALL.out wv.drew HB1.out.drew).mono ?_
      rintro e w3 ⟨hg3, h3⟩
      have HG3 := Lib.hid (grown_trans HG.out (grown_trans (grown_of_below HB1.out.drew) hg3))
      have hst := T.exts_take ps ts k p1 t1 [] HP1.out HT1'.out
      rw [HM1.out] at hst
      have HST := Lib.hid hst
      clear hst hg3 CALL e1 e2 v0 v1
      rcases h3 with ⟨M2, hM2, rfl, hT2⟩ | ⟨hM2, rfl⟩
      · have HM2 := Lib.hid hM2
        have HTT := Lib.hid hT2
        clear hM2 hT2
        go_wp2
        go_roundw
        case rel => exact ⟨k + 1, M2, by have := HL.out; omega, by go_num, HST.out.trans HM2.out, HTT.out, HG3.out⟩
        case measure => simp [intOf]; omega
      · have hr := T.exts_none ps ts (k + 1) [] (HST.out.trans hM2)
        have HR := Lib.hid hr
        clear hM2 hr
        go_wp2
        refine bodyPost_ret (v := .tuple #[.slice none 0 0, .bool false, .int .i64 0]) (by simp [results, Try.results31, go_sem]) rfl ?_
        refine ⟨[], false, 0, .inr ⟨⟨HL.out, Q1.out, Q2.out⟩, .inl ⟨HR.out, rfl, rfl, rfl⟩⟩, none, 0, rfl, IsBs.nil _ _ _ (by simp [maxLen]), HB3.out.trans (grown_below HG3.out hwB HB3.out.size)⟩
    · obtain rfl : k = ts.length := by have := HL.out; omega
      have hM1 := HM1.out
      rw [List.take_length, show ps.take ts.length = ps from by rw [← HL.out, List.take_length]] at hM1
      obtain ⟨f1, f2, f3⟩ := exts_facts HL.out Q1.out Q2.out hM1
      have hln := (T.exts_len _ _ _ _ hM1).1
      simp only [List.length_nil] at hln
      have HMM := Lib.hid hM1
      have HF1 := Lib.hid f1
      have HF2 := Lib.hid f2
      have HF3 := Lib.hid f3
      clear HM1 hM1 f1 f2 f3
      go_wp2_with fail
      refine (msubst_any M1 (by omega) HF1.out HF2.out HF3.out n₀ B wr (by omega) HT.out).mono ?_
      rintro e w4 ⟨a4, c4, rfl, hS, hb⟩
      have HS := Lib.hid hS
      have HF := Lib.hid ((HB3.out.trans (grown_below HG.out hwB HB3.out.size)).trans (hb.mono (by omega)))
      clear hS hb
      go_wp2
      refine bodyPost_ret (v := .tuple #[.slice a4 (sm M1).length c4, .bool true, .int .i64 0]) (by simp [results, Try.results31, go_sem]) rfl ?_
      exact ⟨sm M1, true, 0, .inr ⟨⟨HL.out, Q1.out, Q2.out⟩, .inr ⟨M1, HMM.out, rfl, rfl, rfl⟩⟩, a4, c4, rfl, HS.out, HF.out⟩

end Go.Proofs.Ytjebfmcgenhchaa
