/- QBm: joined of Kb7, RCk. -/
import Derived.Test.YtleohdddaadbeaaGreatQBl
import Derived.Test.YtleohdddaadbeaaGreatQBh
import Derived.Test.YtleohdddaadbeaaGreatQBj
import Derived.Test.YtleohdddaadbeaaGreatKmu
import Derived.Test.YtleohdddaadbeaaGreatQBa
import Derived.Test.YtleohdddaadbeaaGreatQBe
import Derived.Test.YtleohdddaadbeaaGreatRef
/- Plain facts for the laws of layer 8. -/
namespace Go.Proofs.YtleohdddaadbeaaGreat
set_option linter.unusedVariables false
set_option linter.unusedSimpArgs false
open Go.RowKit

theorem stand_swap (g : Sg) (a b : T) : stand g b a = if stand g a b = 2 then 2 else -stand g a b := by
  rcases stand_cases g a b with ⟨h, e⟩ | ⟨h, e⟩ | ⟨h, e⟩ | ⟨h, e1, e2, e3⟩
  · rw [h, stand_zero.2 e.symm]; rfl
  · rw [h, stand_less.2 e]; rfl
  · rw [h, stand_more.2 e]; rfl
  · rw [h]
    rcases stand_cases g b a with ⟨h', e'⟩ | ⟨h', e'⟩ | ⟨h', e'⟩ | ⟨h', _⟩
    · exact absurd e'.symm e1
    · rw [e3] at e'; cases e'
    · rw [e2] at e'; cases e'
    · rw [h']; rfl
def cmR (g : Sg) (a b : T) : Int := if errF g [a, b] = 0 then stand g a b else 0
theorem cmpV_eq (g : Sg) (a b : T) : cmpV g a b = .tuple #[.int .i64 (cmR g a b), .int .i64 (errF g [a, b])] := by
  unfold cmpV cmR
  by_cases h : errF g [a, b] = 0
  · rw [if_pos h, if_pos h, h]
  · rw [if_neg h, if_neg h]
def muR (g : Sg) (a b : List T) : Int := if errF g a = 0 then (if errF g b = 0 then rowsT g a b else 0) else 0
def muE (g : Sg) (a b : List T) : Int := if errF g a = 0 then errF g b else errF g a
theorem mulV_eq (g : Sg) (a b : List T) : mulV g a b = .tuple #[.int .i64 (muR g a b), .int .i64 (muE g a b)] := by
  unfold mulV muR muE
  by_cases h : errF g a = 0
  · rw [if_pos h, if_pos h, if_pos h]
    by_cases h' : errF g b = 0
    · rw [if_pos h', if_pos h', h']
    · rw [if_neg h', if_neg h']
  · rw [if_neg h, if_neg h, if_neg h]
theorem cm_ok {g : Sg} {a b : T} (h : errF g [a, b] = 0) : cmR g a b = stand g a b := by unfold cmR; rw [if_pos h]
theorem errT_right {g : Sg} {t : T} (h : errT g t = 0) : rightG g = true := (errT_ok h).1
theorem errT_bad {g : Sg} {t : T} (h : errT g t = 0) : bad (T.subs 1 t) = false := (check_ok (errT_ok h).2.1).2.2
theorem errT_okT {g : Sg} {t : T} (h : errT g t = 0) : OkT g t := (okT_iff (errT_right h)).1 h
theorem heads_hds (t : T) : t.heads = t.hds := by
  refine hds_unique (F := T.heads) (fun t => ?_) t.size t (Nat.le_refl _)
  rw [T.heads_eq]
theorem isVars_vars (t : T) : IsVars (varsOf (T.subs 1 t)) t := fun v => by rw [mem_vars, heads_hds]
theorem vars_grd {t : T} (h : (varsOf (T.subs 1 t)).length = 0) : Grd t := (grd_vars (isVars_vars t)).1 (List.eq_nil_of_length_eq_zero h)
theorem stand_grd {g : Sg} {a b : T} (ha : errT g a = 0) (hb : errT g b = 0) (ga : Grd a) (gb : Grd b) : stand g a b ≠ 2 := fun h => by
  rcases stand_cases g a b with ⟨h', _⟩ | ⟨h', _⟩ | ⟨h', _⟩ | ⟨_, e1, e2, e3⟩
  · rw [h'] at h; cases h
  · rw [h'] at h; cases h
  · rw [h'] at h; cases h
  · rcases gtK_total (g := g) a.size a b (Nat.le_refl _) (errT_okT ha) (errT_okT hb) ga gb e1 with e | e
    · rw [e2] at e; cases e
    · rw [e3] at e; cases e
theorem stand_trans {g : Sg} {a b c : T} (h1 : stand g a b = 1) (h2 : stand g b c = 1) : stand g a c = 1 :=
  stand_more.2 (gtK_trans a.size a b c (Nat.le_refl _) (stand_more.1 h1) (stand_more.1 h2))
theorem stand_sub {g : Sg} {f : Int → T} {a b : T} (ha : ∀ h ∈ a.hds, h < 0 → 1 ≤ wtT g (f (-1 - h))) (hb : ∀ h ∈ b.hds, h < 0 → 1 ≤ wtT g (f (-1 - h))) (ba : bad (T.subs 1 a) = false) (bb : bad (T.subs 1 b) = false) (h : stand g a b ≠ 2) : stand g (a.sub f) (b.sub f) = stand g a b := by
  rcases stand_cases g a b with ⟨h', e⟩ | ⟨h', e⟩ | ⟨h', e⟩ | ⟨h', _⟩
  · rw [h']; exact stand_zero.2 (by rw [e])
  · rw [h']; exact stand_more.2 (gtK_sub a.size a b (Nat.le_refl _) ha ba bb e)
  · rw [h']; exact stand_less.2 (gtK_sub b.size b a (Nat.le_refl _) hb bb ba e)
  · exact absurd h' h
theorem errF_cons (g : Sg) (t : T) (ts : List T) : errF g (t :: ts) = if errT g t ≠ 0 then errT g t else errF g ts := rfl
theorem errF_one {g : Sg} {t : T} : errF g [t] = errT g t := by
  rw [errF_cons]
  by_cases h : errT g t = 0
  · rw [if_neg (fun e => e h), h]; rfl
  · rw [if_pos h]
theorem errF_app (g : Sg) : ∀ (a b : List T), errF g (a ++ b) = if errF g a = 0 then errF g b else errF g a
  | [], b => rfl
  | t :: a, b => by
    rw [List.cons_append, errF_cons, errF_cons]
    by_cases h : errT g t = 0
    · have h' : ¬ errT g t ≠ 0 := fun e => e h
      simp only [if_neg h', errF_app g a b]
    · simp only [if_pos h, if_neg h]
theorem errF_pair {g : Sg} {a b : T} (ha : errT g a = 0) (hb : errT g b = 0) : errF g [a, b] = 0 := by
  have : errF g ([a] ++ [b]) = 0 := by rw [errF_app, errF_one, errF_one, if_pos ha, hb]
  exact this

end Go.Proofs.YtleohdddaadbeaaGreat

/- Contracts of the reference's Depth, good, Check and Right. -/
namespace Go.Proofs.YtleohdddaadbeaaGreat
set_option linter.unusedVariables false
set_option linter.unusedSimpArgs false
open Go.RowKit



theorem refDepth_any : ∀ (N : Nat) (t : T), t.size ≤ N → t.size ≤ 1000000000000 → ∀ (n₀ : Nat) (a : Option Addr) (c : Nat) (w : World), n₀ ≤ w.heap.size → IsArgs n₀ w t.args a c →
    Calls Tryz.prog 78 #[tm t.head a t.args.length c] w fun e w' => e = .returned (.int .i64 (t.depth : Nat)) ∧ Below w.heap.size w w' := by
  intro N
  induction N with
  | zero => intro t ht; have := T.size_pos t; omega
  | succ N ih =>
    intro t ht hbig n₀ a c w hn hA
    have IH := Lib.hid ih
    clear ih
    have hsz := T.size_eq t
    have HS := Lib.hid hsz
    have HD := Lib.hid (T.depth_eq t)
    have hdl : T.depths t.args ≤ 1000000000000 := by have := T.depths_le_sizes t.args; omega
    have HDL := Lib.hid hdl
    clear hsz hdl
    have hlc : t.args.length ≤ c ∧ c ≤ maxLen := ⟨hA.1, hA.2.1⟩
    unfold maxLen at hlc
    obtain ⟨hl1, hl2⟩ := hlc
    generalize hL : t.args.length = len at *
    have HL := Lib.hid hL
    clear hL
    have HA := Lib.hid hA
    clear hA
    go_enter Tryz.func78, Tryz.ntmps78
    go_wp2
    go_loopw [3, 4] (fun n i wr => ∃ k : Nat, k ≤ len ∧ i = .int .i64 k ∧ n = .int .i64 (T.depths (t.args.take k) : Nat) ∧ Below (w.heap.size + 1) (w.alloc (tmCells t.head a len c)) wr)
      (fun _ i _ => len - (intOf i).toNat)
    case atStart => exact ⟨0, Nat.zero_le _, rfl, by simp [T.depths], Below.refl _ _⟩
    case round =>
      obtain ⟨k, hk, rfl, rfl, hB⟩ := hrel
      generalize hm' : T.depths (t.args.take k) = m at *
      have hmb : m ≤ 1000000000000 := by
        have h3 := T.depths_append (t.args.take k) (t.args.drop k)
        rw [List.take_append_drop] at h3
        have := HDL.out
        omega
      have HM := Lib.hid hm'
      clear hm'
      have hbox : wr.cell? ⟨w.heap.size, 1, none⟩ = some (.slice a len c) := (hB.cell (p := ⟨w.heap.size, 1, none⟩) (by simp)).trans (by simp [go_sem])
      have HB := Lib.hid hB
      clear hB
      by_cases hlt : k < len
      · have hw : Below n₀ w wr := ((Below.refl n₀ w).alloc hn _).trans (HB.out.mono (by omega))
        obtain ⟨b, o, s, a', c', rfl, hbn, hs, hwf, hc1, hc2, hA'⟩ := (HA.out.below hw).elem (i := k) (by rw [HL.out]; exact hlt)
        have hs1 : wr.heap.size ≥ w.heap.size + 1 := by have := HB.out.size; simpa using this
        have hsN : s.size ≤ N := by have := T.size_lt_of_mem hs; have := HS.out; omega
        have hsb : s.size ≤ 1000000000000 := by have := T.size_lt_of_mem hs; have := HS.out; omega
        have HSS := Lib.hid hs
        have HA' := Lib.hid hA'
        clear hs hA' hw hwf
        go_wp2_with fail
        refine (IH.out s hsN hsb n₀ a' c' wr (by omega) HA'.out).mono ?_
        rintro e w2 ⟨rfl, hB2⟩
        generalize hr : s.depth = r at *
        have HR := Lib.hid hr
        have HB2 := Lib.hid hB2
        clear hr hB2
        go_wp2
        go_roundw
        case rel =>
          refine ⟨k + 1, by omega, by go_num, ?_, HB.out.trans (HB2.out.mono (by omega))⟩
          have h1 := HM.out
          have h2 := HR.out
          have h3 := T.depths_take HSS.out
          rw [h1, h2] at h3
          rw [h3]
          congr 1
          omega
        case measure => simp [intOf]; omega
      · go_wp2
        go_ret
        refine ⟨?_, (((Below.refl w.heap.size w).alloc (Nat.le_refl _) _).trans (HB.out.mono (by omega)))⟩
        have h1 := HM.out
        have h2 := HD.out
        rw [List.take_of_length_le (by have := HL.out; omega)] at h1
        rw [h2, h1]
        show Ending.returned (Value.int .i64 ((m : Int) + 1)) = _
        congr 2
        omega



set_option maxRecDepth 100000 in
set_option maxHeartbeats 1000000 in
theorem refGood_any : ∀ (N : Nat) (t : T), t.size ≤ N → t.size ≤ 1000000000000 → ∀ (n₀ : Nat) (a : Option Addr) (c : Nat) (w : World), n₀ ≤ w.heap.size → IsArgs n₀ w t.args a c →
    Calls Tryz.prog 79 #[tm t.head a t.args.length c] w fun e w' => e = .returned (.bool (!bad (T.subs 1 t))) ∧ Below w.heap.size w w' := by
  intro N
  induction N with
  | zero => intro t ht; have := T.size_pos t; omega
  | succ N ih =>
    intro t ht hbig n₀ a c w hn hA
    have IH := Lib.hid ih
    clear ih
    have HS := Lib.hid (T.size_eq t)
    have HE := Lib.hid (bad_eq t)
    have hlc : t.args.length ≤ c ∧ c ≤ maxLen := ⟨hA.1, hA.2.1⟩
    unfold maxLen at hlc
    obtain ⟨hl1, hl2⟩ := hlc
    generalize hL : t.args.length = len at *
    have HL := Lib.hid hL
    clear hL
    have HA := Lib.hid hA
    have HF := Lib.hid (show Below w.heap.size w (w.alloc (tmCells t.head a len c)) from (Below.refl _ _).alloc (Nat.le_refl _) _)
    clear hA
    have hokN : ∀ (P : Prop), P → (okB t.head len = false) → True := fun _ _ _ => trivial
    clear hokN
    by_cases q1 : t.head < 0
    · by_cases q2 : 0 < len
      · have hd : bad (T.subs 1 t) = true := by rw [HE.out]; simp [okB, q1, show ¬ len = 0 from by omega]
        rw [hd]
        go_enter Tryz.func79, Tryz.ntmps79
        go_wp2
        go_ret
        exact ⟨by first | (rw [hd]; rfl) | rfl, HF.out⟩
      · obtain rfl : len = 0 := by omega
        by_cases q3 : t.head < -256
        · have hd : bad (T.subs 1 t) = true := by rw [HE.out]; simp [okB, q1, show ¬ -1 - t.head ≤ 255 from by omega]
          rw [hd]
          go_enter Tryz.func79, Tryz.ntmps79
          go_wp2
          go_ret
          exact ⟨by first | (rw [hd]; rfl) | rfl, HF.out⟩
        · have hd : bad (T.subs 1 t) = false := by
            rw [HE.out, List.eq_nil_of_length_eq_zero HL.out]
            simp [okB, q1, show -1 - t.head ≤ 255 from by omega, T.subss, bad]
          rw [hd]
          have q4 : ¬ 1023 < t.head := by omega
          have q5 : ¬ (8 : Int) < 0 := by omega
          go_enter Tryz.func79, Tryz.ntmps79
          go_wp2
          go_loopw [3] (fun i wr => i = .int .i64 0 ∧ wr = w.alloc (tmCells t.head a 0 c)) (fun _ _ => 0)
          case atStart => exact ⟨by first | (rw [hd]; rfl) | rfl, rfl⟩
          case round =>
            obtain ⟨rfl, rfl⟩ := hrel
            go_wp2
            go_ret
            exact ⟨by first | (rw [hd]; rfl) | rfl, HF.out⟩
    · have q3 : ¬ t.head < -256 := by omega
      by_cases q4 : 1023 < t.head
      · have hd : bad (T.subs 1 t) = true := by rw [HE.out]; simp [okB, q1, show ¬ t.head ≤ 1023 from by omega]
        rw [hd]
        go_enter Tryz.func79, Tryz.ntmps79
        go_wp2
        go_ret
        exact ⟨by first | (rw [hd]; rfl) | rfl, HF.out⟩
      · by_cases q5 : 8 < len
        · have hd : bad (T.subs 1 t) = true := by rw [HE.out]; simp [okB, q1, show ¬ len ≤ 8 from by omega]
          have q5' : (8 : Int) < (len : Int) := by omega
          rw [hd]
          go_enter Tryz.func79, Tryz.ntmps79
          go_wp2
          go_ret
          exact ⟨by first | (rw [hd]; rfl) | rfl, HF.out⟩
        · have hd : bad (T.subs 1 t) = bad (T.subss 2 t.args) := by rw [HE.out]; simp [okB, q1, show t.head ≤ 1023 from by omega, show len ≤ 8 from by omega]
          have q5' : ¬ (8 : Int) < (len : Int) := by omega
          rw [hd]
          clear hd
          go_enter Tryz.func79, Tryz.ntmps79
          go_wp2
          go_loopw [3] (fun i wr => ∃ k : Nat, k ≤ len ∧ i = .int .i64 k ∧ bad (T.subss 2 (t.args.take k)) = false ∧ Below (w.heap.size + 1) (w.alloc (tmCells t.head a len c)) wr)
            (fun i _ => len - (intOf i).toNat)
          case atStart => exact ⟨0, Nat.zero_le _, rfl, by simp [T.subss, bad], Below.refl _ _⟩
          case round =>
            obtain ⟨k, hk, rfl, hbd, hB⟩ := hrel
            have HBD := Lib.hid hbd
            have hbox : wr.cell? ⟨w.heap.size, 1, none⟩ = some (.slice a len c) := (hB.cell (p := ⟨w.heap.size, 1, none⟩) (by simp)).trans (by simp [go_sem])
            have HB := Lib.hid hB
            clear hB hbd
            by_cases hlt : k < len
            · have hw : Below n₀ w wr := ((Below.refl n₀ w).alloc hn _).trans (HB.out.mono (by omega))
              obtain ⟨b, o, s, a', c', rfl, hbn, hs, hwf, hc1, hc2, hA'⟩ := (HA.out.below hw).elem (i := k) (by rw [HL.out]; exact hlt)
              have hs1 : wr.heap.size ≥ w.heap.size + 1 := by have := HB.out.size; simpa using this
              have hsN : s.size ≤ N := by have := T.size_lt_of_mem hs; have := HS.out; omega
              have hsb : s.size ≤ 1000000000000 := by have := T.size_lt_of_mem hs; have := HS.out; omega
              have HSS := Lib.hid hs
              have HA' := Lib.hid hA'
              clear hs hA' hw hwf
              go_wp2_with fail
              refine (IH.out s hsN hsb n₀ a' c' wr (by omega) HA'.out).mono ?_
              rintro e w2 ⟨rfl, hB2⟩
              have HB2 := Lib.hid (HB.out.trans (hB2.mono (by omega)))
              clear hB2
              cases hb : bad (T.subs 1 s)
              · have HBS := Lib.hid hb
                clear hb
                go_wp2
                go_roundw
                case rel => exact ⟨k + 1, by omega, by go_num, by rw [bads_take HSS.out, HBD.out, HBS.out]; rfl, HB2.out⟩
                case measure => simp [intOf]; omega
              · have hd := bads_mem HSS.out hb
                clear hb
                go_wp2
                go_ret
                exact ⟨by first | (rw [hd]; rfl) | rfl, ((Below.refl w.heap.size w).alloc (Nat.le_refl _) _).trans (HB2.out.mono (by omega))⟩
            · have hd := HBD.out
              rw [List.take_of_length_le (by have := HL.out; omega)] at hd
              go_wp2
              go_ret
              exact ⟨by first | (rw [hd]; rfl) | rfl, ((Below.refl w.heap.size w).alloc (Nat.le_refl _) _).trans (HB.out.mono (by omega))⟩

set_option maxRecDepth 100000 in
set_option maxHeartbeats 1000000 in
theorem refCheck_any (t : T) (ht : t.size ≤ 1000000000000) (n₀ : Nat) (a : Option Addr) (c : Nat) (w : World) (hn : n₀ ≤ w.heap.size) (hA : IsArgs n₀ w t.args a c) :
    Calls Tryz.prog 54 #[tm t.head a t.args.length c] w fun e w' => e = .returned (.int .i64 t.check) ∧ Below w.heap.size w w' := by
  have hdl := T.depth_le_size t
  obtain ⟨w1, hw1⟩ : ∃ w1, w.alloc (tmCells t.head a t.args.length c) = w1 := ⟨_, rfl⟩
  have hb1 : Below w.heap.size w w1 := by rw [← hw1]; exact (Below.refl _ w).alloc (Nat.le_refl _) _
  have L1 := Lib.hid (show ∀ W, Below w1.heap.size w1 W → W.cell? ⟨w.heap.size, 0, none⟩ = some (.int .i64 t.head) ∧ W.cell? ⟨w.heap.size, 1, none⟩ = some (.slice a t.args.length c) ∧ IsArgs n₀ W t.args a c ∧ Below w.heap.size w W ∧ n₀ ≤ W.heap.size from fun W hW => by
    have h := hb1.trans (hW.mono hb1.size)
    exact ⟨(hW.cell (p := ⟨w.heap.size, 0, none⟩) (by rw [← hw1]; simp)).trans (by rw [← hw1]; simp [go_sem]), (hW.cell (p := ⟨w.heap.size, 1, none⟩) (by rw [← hw1]; simp)).trans (by rw [← hw1]; simp [go_sem]), hA.below (h.mono hn), h, Nat.le_trans hn h.size⟩)
  clear hA hb1
  obtain ⟨c0, c1, _, _, _⟩ := L1.out w1 (Below.refl _ _)
  go_enter Tryz.func54, Tryz.ntmps54
  go_wp2_with fail
  obtain ⟨_, _, hA, hb, hz⟩ := L1.out w1 (Below.refl _ _)
  clear hw1 c0 c1
  refine (refSize_any t.size t (Nat.le_refl _) ht n₀ a c w1 hz hA).mono ?_
  rintro e w2 ⟨rfl, hb2⟩
  clear hA hb hz
  obtain ⟨c0, c1, hA, hb, hz⟩ := L1.out w2 hb2
  by_cases q1 : 400 < t.size
  · have hd : t.check = 2 := by unfold T.check; rw [if_pos q1]
    have q1' : (400 : Int) < (t.size : Int) := by omega
    have HB := Lib.hid hb
    clear hb2 hA hb
    go_wp2
    go_ret
    exact ⟨by first | (rw [hd]; rfl) | rfl, HB.out⟩
  · have q1' : ¬ (400 : Int) < (t.size : Int) := by omega
    have HA := Lib.hid hA
    have HB2 := Lib.hid hb2
    clear hA hb hb2
    go_wp2_with fail
    refine (refDepth_any t.size t (Nat.le_refl _) ht n₀ a c w2 hz HA.out).mono ?_
    rintro e w3 ⟨rfl, hb3⟩
    have hb3' := HB2.out.trans (hb3.mono HB2.out.size)
    clear c0 c1 HA hz hb3
    obtain ⟨c0, c1, hA, hb, hz⟩ := L1.out w3 hb3'
    by_cases q2 : 40 < t.depth
    · have hd : t.check = 7 := by unfold T.check; rw [if_neg q1, if_pos q2]
      have q2' : (40 : Int) < (t.depth : Int) := by omega
      have HB := Lib.hid hb
      clear hb3' hA hb
      go_wp2
      go_ret
      exact ⟨by first | (rw [hd]; rfl) | rfl, HB.out⟩
    · have q2' : ¬ (40 : Int) < (t.depth : Int) := by omega
      have HA := Lib.hid hA
      have HB3 := Lib.hid hb3'
      clear hA hb hb3'
      go_wp2_with fail
      refine (refGood_any t.size t (Nat.le_refl _) ht n₀ a c w3 hz HA.out).mono ?_
      rintro e w4 ⟨rfl, hb4⟩
      have hb4' := HB3.out.trans (hb4.mono HB3.out.size)
      clear c0 c1 HA hz hb4
      obtain ⟨_, _, hA, hb, hz⟩ := L1.out w4 hb4'
      have HB := Lib.hid hb
      clear hb4' hA hb
      cases hbd : bad (T.subs 1 t)
      · have hd : t.check = 0 := by unfold T.check; rw [if_neg q1, if_neg q2, hbd]; rfl
        go_wp2
        go_ret
        exact ⟨by first | (rw [hd]; rfl) | rfl, HB.out⟩
      · have hd : t.check = 1 := by unfold T.check; rw [if_neg q1, if_neg q2, hbd]; rfl
        go_wp2
        go_ret
        exact ⟨by first | (rw [hd]; rfl) | rfl, HB.out⟩

end Go.Proofs.YtleohdddaadbeaaGreat
