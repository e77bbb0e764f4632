/- Q1g: joined of RCk, ThW. -/
import Derived.Test.YtcbjnfdhghhgeaaQ1b
import Derived.Test.YtcbjnfdhghhgeaaQ1e
import Derived.Test.YtcbjnfdhghhgeaaRef
import Derived.Test.YtcbjnfdhghhgeaaBoth
import Derived.Test.YtcbjnfdhghhgeaaQ1d
/- Contracts of the reference's Depth, good, Check and Right. -/
namespace Go.Proofs.Ytcbjnfdhghhgeaa
set_option linter.unusedVariables false
set_option linter.unusedSimpArgs false
open Go.RowKit



theorem refDepth_any : ∀ (N : Nat) (t : T), t.size ≤ N → t.size ≤ 1000000000000 → ∀ (n₀ : Nat) (a : Option Addr) (c : Nat) (w : World), n₀ ≤ w.heap.size → IsArgs n₀ w t.args a c →
    Calls Try.prog 115 #[tm t.head a t.args.length c] w fun e w' => e = .returned (.int .i64 (t.depth : Nat)) ∧ Below w.heap.size w w' := by
  intro N
  induction N with
  | zero => intro t ht; have := T.size_pos t; omega
  | succ N ih =>
    intro t ht hbig n₀ a c w hn hA
    have IH := Lib.hid ih
    clear ih
    have hsz := T.size_eq t
    have HS := Lib.hid hsz
    have HD := Lib.hid (T.depth_eq t)
    have hdl : T.depths t.args ≤ 1000000000000 := by have := T.depths_le_sizes t.args; omega
    have HDL := Lib.hid hdl
    clear hsz hdl
    have hlc : t.args.length ≤ c ∧ c ≤ maxLen := ⟨hA.1, hA.2.1⟩
    unfold maxLen at hlc
    obtain ⟨hl1, hl2⟩ := hlc
    generalize hL : t.args.length = len at *
    have HL := Lib.hid hL
    clear hL
    have HA := Lib.hid hA
    clear hA
    go_enter Try.func115, Try.ntmps115
    go_wp2
    go_loopw [3, 4] (fun n i wr => ∃ k : Nat, k ≤ len ∧ i = .int .i64 k ∧ n = .int .i64 (T.depths (t.args.take k) : Nat) ∧ Below (w.heap.size + 1) (w.alloc (tmCells t.head a len c)) wr)
      (fun _ i _ => len - (intOf i).toNat)
    case atStart => exact ⟨0, Nat.zero_le _, rfl, by simp [T.depths], Below.refl _ _⟩
    case round =>
      obtain ⟨k, hk, rfl, rfl, hB⟩ := hrel
      generalize hm' : T.depths (t.args.take k) = m at *
      have hmb : m ≤ 1000000000000 := by
        have h3 := T.depths_append (t.args.take k) (t.args.drop k)
        rw [List.take_append_drop] at h3
        have := HDL.out
        omega
      have HM := Lib.hid hm'
      clear hm'
      have hbox : wr.cell? ⟨w.heap.size, 1, none⟩ = some (.slice a len c) := (hB.cell (p := ⟨w.heap.size, 1, none⟩) (by simp)).trans (by simp [go_sem])
      have HB := Lib.hid hB
      clear hB
      by_cases hlt : k < len
      · have hw : Below n₀ w wr := ((Below.refl n₀ w).alloc hn _).trans (HB.out.mono (by omega))
        obtain ⟨b, o, s, a', c', rfl, hbn, hs, hwf, hc1, hc2, hA'⟩ := (HA.out.below hw).elem (i := k) (by rw [HL.out]; exact hlt)
        have hs1 : wr.heap.size ≥ w.heap.size + 1 := by have := HB.out.size; simpa using this
        have hsN : s.size ≤ N := by have := T.size_lt_of_mem hs; have := HS.out; omega
        have hsb : s.size ≤ 1000000000000 := by have := T.size_lt_of_mem hs; have := HS.out; omega
        have HSS := Lib.hid hs
        have HA' := Lib.hid hA'
        clear hs hA' hw hwf
        go_wp2_with fail
        refine (IH.out s hsN hsb n₀ a' c' wr (by omega) HA'.out).mono ?_
        rintro e w2 ⟨rfl, hB2⟩
        generalize hr : s.depth = r at *
        have HR := Lib.hid hr
        have HB2 := Lib.hid hB2
        clear hr hB2
        go_wp2
        go_roundw
        case rel =>
          refine ⟨k + 1, by omega, by go_num, ?_, HB.out.trans (HB2.out.mono (by omega))⟩
          have h1 := HM.out
          have h2 := HR.out
          have h3 := T.depths_take HSS.out
          rw [h1, h2] at h3
          rw [h3]
          congr 1
          omega
        case measure => simp [intOf]; omega
      · go_wp2
        go_ret
        refine ⟨?_, (((Below.refl w.heap.size w).alloc (Nat.le_refl _) _).trans (HB.out.mono (by omega)))⟩
        have h1 := HM.out
        have h2 := HD.out
        rw [List.take_of_length_le (by have := HL.out; omega)] at h1
        rw [h2, h1]
        show Ending.returned (Value.int .i64 ((m : Int) + 1)) = _
        congr 2
        omega



set_option maxRecDepth 100000 in
set_option maxHeartbeats 1000000 in
theorem refGood_any : ∀ (N : Nat) (t : T), t.size ≤ N → t.size ≤ 1000000000000 → ∀ (n₀ : Nat) (a : Option Addr) (c : Nat) (w : World), n₀ ≤ w.heap.size → IsArgs n₀ w t.args a c →
    Calls Try.prog 116 #[tm t.head a t.args.length c] w fun e w' => e = .returned (.bool (!bad (T.subs 1 t))) ∧ Below w.heap.size w w' := by
  intro N
  induction N with
  | zero => intro t ht; have := T.size_pos t; omega
  | succ N ih =>
    intro t ht hbig n₀ a c w hn hA
    have IH := Lib.hid ih
    clear ih
    have HS := Lib.hid (T.size_eq t)
    have HE := Lib.hid (bad_eq t)
    have hlc : t.args.length ≤ c ∧ c ≤ maxLen := ⟨hA.1, hA.2.1⟩
    unfold maxLen at hlc
    obtain ⟨hl1, hl2⟩ := hlc
    generalize hL : t.args.length = len at *
    have HL := Lib.hid hL
    clear hL
    have HA := Lib.hid hA
    have HF := Lib.hid (show Below w.heap.size w (w.alloc (tmCells t.head a len c)) from (Below.refl _ _).alloc (Nat.le_refl _) _)
    clear hA
    have hokN : ∀ (P : Prop), P → (okB t.head len = false) → True := fun _ _ _ => trivial
    clear hokN
    by_cases q1 : t.head < 0
    · by_cases q2 : 0 < len
      · have hd : bad (T.subs 1 t) = true := by rw [HE.out]; simp [okB, q1, show ¬ len = 0 from by omega]
        rw [hd]
        go_enter Try.func116, Try.ntmps116
        go_wp2
        go_ret
        exact ⟨by first | (rw [hd]; rfl) | rfl, HF.out⟩
      · obtain rfl : len = 0 := by omega
        by_cases q3 : t.head < -256
        · have hd : bad (T.subs 1 t) = true := by rw [HE.out]; simp [okB, q1, show ¬ -1 - t.head ≤ 255 from by omega]
          rw [hd]
          go_enter Try.func116, Try.ntmps116
          go_wp2
          go_ret
          exact ⟨by first | (rw [hd]; rfl) | rfl, HF.out⟩
        · have hd : bad (T.subs 1 t) = false := by
            rw [HE.out, List.eq_nil_of_length_eq_zero HL.out]
            simp [okB, q1, show -1 - t.head ≤ 255 from by omega, T.subss, bad]
          rw [hd]
          have q4 : ¬ 1023 < t.head := by omega
          have q5 : ¬ (8 : Int) < 0 := by omega
          go_enter Try.func116, Try.ntmps116
          go_wp2
          go_loopw [3] (fun i wr => i = .int .i64 0 ∧ wr = w.alloc (tmCells t.head a 0 c)) (fun _ _ => 0)
          case atStart => exact ⟨by first | (rw [hd]; rfl) | rfl, rfl⟩
          case round =>
            obtain ⟨rfl, rfl⟩ := hrel
            go_wp2
            go_ret
            exact ⟨by first | (rw [hd]; rfl) | rfl, HF.out⟩
    · have q3 : ¬ t.head < -256 := by omega
      by_cases q4 : 1023 < t.head
      · have hd : bad (T.subs 1 t) = true := by rw [HE.out]; simp [okB, q1, show ¬ t.head ≤ 1023 from by omega]
        rw [hd]
        go_enter Try.func116, Try.ntmps116
        go_wp2
        go_ret
        exact ⟨by first | (rw [hd]; rfl) | rfl, HF.out⟩
      · by_cases q5 : 8 < len
        · have hd : bad (T.subs 1 t) = true := by rw [HE.out]; simp [okB, q1, show ¬ len ≤ 8 from by omega]
          have q5' : (8 : Int) < (len : Int) := by omega
          rw [hd]
          go_enter Try.func116, Try.ntmps116
          go_wp2
          go_ret
          exact ⟨by first | (rw [hd]; rfl) | rfl, HF.out⟩
        · have hd : bad (T.subs 1 t) = bad (T.subss 2 t.args) := by rw [HE.out]; simp [okB, q1, show t.head ≤ 1023 from by omega, show len ≤ 8 from by omega]
          have q5' : ¬ (8 : Int) < (len : Int) := by omega
          rw [hd]
          clear hd
          go_enter Try.func116, Try.ntmps116
          go_wp2
          go_loopw [3] (fun i wr => ∃ k : Nat, k ≤ len ∧ i = .int .i64 k ∧ bad (T.subss 2 (t.args.take k)) = false ∧ Below (w.heap.size + 1) (w.alloc (tmCells t.head a len c)) wr)
            (fun i _ => len - (intOf i).toNat)
          case atStart => exact ⟨0, Nat.zero_le _, rfl, by simp [T.subss, bad], Below.refl _ _⟩
          case round =>
            obtain ⟨k, hk, rfl, hbd, hB⟩ := hrel
            have HBD := Lib.hid hbd
            have hbox : wr.cell? ⟨w.heap.size, 1, none⟩ = some (.slice a len c) := (hB.cell (p := ⟨w.heap.size, 1, none⟩) (by simp)).trans (by simp [go_sem])
            have HB := Lib.hid hB
            clear hB hbd
            by_cases hlt : k < len
            · have hw : Below n₀ w wr := ((Below.refl n₀ w).alloc hn _).trans (HB.out.mono (by omega))
              obtain ⟨b, o, s, a', c', rfl, hbn, hs, hwf, hc1, hc2, hA'⟩ := (HA.out.below hw).elem (i := k) (by rw [HL.out]; exact hlt)
              have hs1 : wr.heap.size ≥ w.heap.size + 1 := by have := HB.out.size; simpa using this
              have hsN : s.size ≤ N := by have := T.size_lt_of_mem hs; have := HS.out; omega
              have hsb : s.size ≤ 1000000000000 := by have := T.size_lt_of_mem hs; have := HS.out; omega
              have HSS := Lib.hid hs
              have HA' := Lib.hid hA'
              clear hs hA' hw hwf
              go_wp2_with fail
              refine (IH.out s hsN hsb n₀ a' c' wr (by omega) HA'.out).mono ?_
              rintro e w2 ⟨rfl, hB2⟩
              have HB2 := Lib.hid (HB.out.trans (hB2.mono (by omega)))
              clear hB2
              cases hb : bad (T.subs 1 s)
              · have HBS := Lib.hid hb
                clear hb
                go_wp2
                go_roundw
                case rel => exact ⟨k + 1, by omega, by go_num, by rw [bads_take HSS.out, HBD.out, HBS.out]; rfl, HB2.out⟩
                case measure => simp [intOf]; omega
              · have hd := bads_mem HSS.out hb
                clear hb
                go_wp2
                go_ret
                exact ⟨by first | (rw [hd]; rfl) | rfl, ((Below.refl w.heap.size w).alloc (Nat.le_refl _) _).trans (HB2.out.mono (by omega))⟩
            · have hd := HBD.out
              rw [List.take_of_length_le (by have := HL.out; omega)] at hd
              go_wp2
              go_ret
              exact ⟨by first | (rw [hd]; rfl) | rfl, ((Below.refl w.heap.size w).alloc (Nat.le_refl _) _).trans (HB.out.mono (by omega))⟩

set_option maxRecDepth 100000 in
set_option maxHeartbeats 1000000 in
theorem refCheck_any (t : T) (ht : t.size ≤ 1000000000000) (n₀ : Nat) (a : Option Addr) (c : Nat) (w : World) (hn : n₀ ≤ w.heap.size) (hA : IsArgs n₀ w t.args a c) :
    Calls Try.prog 90 #[tm t.head a t.args.length c] w fun e w' => e = .returned (.int .i64 t.check) ∧ Below w.heap.size w w' := by
  have hdl := T.depth_le_size t
  obtain ⟨w1, hw1⟩ : ∃ w1, w.alloc (tmCells t.head a t.args.length c) = w1 := ⟨_, rfl⟩
  have hb1 : Below w.heap.size w w1 := by rw [← hw1]; exact (Below.refl _ w).alloc (Nat.le_refl _) _
  have L1 := Lib.hid (show ∀ W, Below w1.heap.size w1 W → W.cell? ⟨w.heap.size, 0, none⟩ = some (.int .i64 t.head) ∧ W.cell? ⟨w.heap.size, 1, none⟩ = some (.slice a t.args.length c) ∧ IsArgs n₀ W t.args a c ∧ Below w.heap.size w W ∧ n₀ ≤ W.heap.size from fun W hW => by
    have h := hb1.trans (hW.mono hb1.size)
    exact ⟨(hW.cell (p := ⟨w.heap.size, 0, none⟩) (by rw [← hw1]; simp)).trans (by rw [← hw1]; simp [go_sem]), (hW.cell (p := ⟨w.heap.size, 1, none⟩) (by rw [← hw1]; simp)).trans (by rw [← hw1]; simp [go_sem]), hA.below (h.mono hn), h, Nat.le_trans hn h.size⟩)
  clear hA hb1
  obtain ⟨c0, c1, _, _, _⟩ := L1.out w1 (Below.refl _ _)
  go_enter Try.func90, Try.ntmps90
  go_wp2_with fail
  obtain ⟨_, _, hA, hb, hz⟩ := L1.out w1 (Below.refl _ _)
  clear hw1 c0 c1
  refine (refSize_any t.size t (Nat.le_refl _) ht n₀ a c w1 hz hA).mono ?_
  rintro e w2 ⟨rfl, hb2⟩
  clear hA hb hz
  obtain ⟨c0, c1, hA, hb, hz⟩ := L1.out w2 hb2
  by_cases q1 : 400 < t.size
  · have hd : t.check = 2 := by unfold T.check; rw [if_pos q1]
    have q1' : (400 : Int) < (t.size : Int) := by omega
    have HB := Lib.hid hb
    clear hb2 hA hb
    go_wp2
    go_ret
    exact ⟨by first | (rw [hd]; rfl) | rfl, HB.out⟩
  · have q1' : ¬ (400 : Int) < (t.size : Int) := by omega
    have HA := Lib.hid hA
    have HB2 := Lib.hid hb2
    clear hA hb hb2
    go_wp2_with fail
    refine (refDepth_any t.size t (Nat.le_refl _) ht n₀ a c w2 hz HA.out).mono ?_
    rintro e w3 ⟨rfl, hb3⟩
    have hb3' := HB2.out.trans (hb3.mono HB2.out.size)
    clear c0 c1 HA hz hb3
    obtain ⟨c0, c1, hA, hb, hz⟩ := L1.out w3 hb3'
    by_cases q2 : 40 < t.depth
    · have hd : t.check = 7 := by unfold T.check; rw [if_neg q1, if_pos q2]
      have q2' : (40 : Int) < (t.depth : Int) := by omega
      have HB := Lib.hid hb
      clear hb3' hA hb
      go_wp2
      go_ret
      exact ⟨by first | (rw [hd]; rfl) | rfl, HB.out⟩
    · have q2' : ¬ (40 : Int) < (t.depth : Int) := by omega
      have HA := Lib.hid hA
      have HB3 := Lib.hid hb3'
      clear hA hb hb3'
      go_wp2_with fail
      refine (refGood_any t.size t (Nat.le_refl _) ht n₀ a c w3 hz HA.out).mono ?_
      rintro e w4 ⟨rfl, hb4⟩
      have hb4' := HB3.out.trans (hb4.mono HB3.out.size)
      clear c0 c1 HA hz hb4
      obtain ⟨_, _, hA, hb, hz⟩ := L1.out w4 hb4'
      have HB := Lib.hid hb
      clear hb4' hA hb
      cases hbd : bad (T.subs 1 t)
      · have hd : t.check = 0 := by unfold T.check; rw [if_neg q1, if_neg q2, hbd]; rfl
        go_wp2
        go_ret
        exact ⟨by first | (rw [hd]; rfl) | rfl, HB.out⟩
      · have hd : t.check = 1 := by unfold T.check; rw [if_neg q1, if_neg q2, hbd]; rfl
        go_wp2
        go_ret
        exact ⟨by first | (rw [hd]; rfl) | rfl, HB.out⟩

theorem refRight_any (t : T) (ht : t.size ≤ 1000000000000) (n₀ : Nat) (a : Option Addr) (c : Nat) (w : World) (hn : n₀ ≤ w.heap.size) (hA : IsArgs n₀ w t.args a c) :
    Calls Try.prog 96 #[tm t.head a t.args.length c] w fun e w' => e = .returned (.bool (decide (t.check = 0))) ∧ Below w.heap.size w w' := by
  have hb1 := (Below.refl w.heap.size w).alloc (Nat.le_refl _) (tmCells t.head a t.args.length c)
  have HC := Lib.hid (refCheck_any t ht n₀ a c (w.alloc (tmCells t.head a t.args.length c)) (by simp; omega) (hA.below (hb1.mono hn)))
  have HB := Lib.hid hb1
  clear hb1 hA
  go_enter Try.func96, Try.ntmps96
  go_wp2_with fail
  refine HC.out.mono ?_
  rintro e w2 ⟨rfl, hb2⟩
  have HB2 := Lib.hid (HB.out.trans (hb2.mono HB.out.size))
  clear hb2
  go_wp2
  go_ret
  refine ⟨?_, HB2.out⟩
  rfl

end Go.Proofs.Ytcbjnfdhghhgeaa

/- What Then answers, in plain words: errors, members. -/
namespace Go.Proofs.Ytcbjnfdhghhgeaa
set_option linter.unusedVariables false
set_option linter.unusedSimpArgs false
open Go.RowKit

/-- The error of the first term of a list of bindings that is not valid. -/
def errL : Sb → Int
  | [] => 0
  | (_, t) :: s => if t.check = 0 then errL s else t.check
theorem errL_then {s u : Sb} : ∀ (L : List Int), (∀ z ∈ L, (thenT s u z).head = -1 - z → (thenT s u z).check = 0) → errL (thenL s u L) = thenE s u L := by
  intro L
  induction L with
  | nil => intros; rfl
  | cons z L ih =>
    intro h
    have ih := ih (fun y hy => h y (by simp [hy]))
    rw [thenL, thenE]
    split
    · rename_i hz
      rw [if_pos (h z (by simp) hz), ih]
    · rw [errL, ih]
theorem thenT_var {s u : Sb} (hs : rightS 0 s = true) (hu : rightS 0 u = true) {z : Int} (h0 : 0 ≤ z) (h1 : z ≤ 255) (h : (thenT s u z).head = -1 - z) : (thenT s u z).check = 0 := by
  obtain ⟨hg, _⟩ := ofS_good hs h0 h1
  unfold thenT at h ⊢
  by_cases q : (ofS s z).head < 0
  · have ha := good_head hg
    simp only [okB, if_pos q, Bool.and_eq_true, decide_eq_true_iff] at ha
    rw [T.sub_neg q] at h ⊢
    obtain ⟨hg2, _⟩ := ofS_good hu (z := -1 - (ofS s z).head) (by omega) ha.2
    have hl := good_leaf hg2 (by omega)
    generalize ofS u (-1 - (ofS s z).head) = x at *
    rw [show x = vt z from by rw [← T.eta x, hl, h]; rfl]
    exact check_vt h0 h1
  · rw [T.sub_pos q] at h
    exact absurd h (by rw [T.head_node]; omega)
theorem errL_step {s : Sb} {k : Nat} {x : Int} {t : T} (h : s[k]? = some (x, t)) : errL (s.drop k) = if t.check = 0 then errL (s.drop (k + 1)) else t.check := by
  obtain ⟨hk, e⟩ := List.getElem?_eq_some_iff.1 h
  rw [List.drop_eq_getElem_cons hk, e, errL]
theorem thenL_mem {s u : Sb} : ∀ {L : List Int} {x : Int × T}, x ∈ thenL s u L → x.2 = thenT s u x.1 ∧ x.1 ∈ L := by
  intro L
  induction L with
  | nil => intro x h; simp [thenL] at h
  | cons z L ih =>
    intro x h
    rw [thenL] at h
    split at h
    · have := ih h; exact ⟨this.1, by simp [this.2]⟩
    · rcases List.mem_cons.1 h with rfl | h
      · exact ⟨rfl, by simp⟩
      · have := ih h; exact ⟨this.1, by simp [this.2]⟩

end Go.Proofs.Ytcbjnfdhghhgeaa
