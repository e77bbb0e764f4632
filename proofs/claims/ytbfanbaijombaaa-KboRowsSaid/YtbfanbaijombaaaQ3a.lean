/- Q3a: joined of RCk, R7. -/
import Derived.Test.YtbfanbaijombaaaQ1b
import Derived.Test.YtbfanbaijombaaaQ1d
import Derived.Test.YtbfanbaijombaaaQ1h
import Derived.Test.YtbfanbaijombaaaQ1f
import Derived.Test.YtbfanbaijombaaaQ1g
import Derived.Lib.QuietBelow
import Derived.BigQuiet
/- Contracts of the reference's Depth, good, Check and Right. -/
namespace Go.Proofs.Ytbfanbaijombaaa
set_option linter.unusedVariables false
set_option linter.unusedSimpArgs false
open Go.RowKit



theorem refDepth_any : ∀ (N : Nat) (t : T), t.size ≤ N → t.size ≤ 1000000000000 → ∀ (n₀ : Nat) (a : Option Addr) (c : Nat) (w : World), n₀ ≤ w.heap.size → IsArgs n₀ w t.args a c →
    Calls Try.prog 73 #[tm t.head a t.args.length c] w fun e w' => e = .returned (.int .i64 (t.depth : Nat)) ∧ Below w.heap.size w w' := by
  intro N
  induction N with
  | zero => intro t ht; have := T.size_pos t; omega
  | succ N ih =>
    intro t ht hbig n₀ a c w hn hA
    have IH := Lib.hid ih
    clear ih
    have hsz := T.size_eq t
    have HS := Lib.hid hsz
    have HD := Lib.hid (T.depth_eq t)
    have hdl : T.depths t.args ≤ 1000000000000 := by have := T.depths_le_sizes t.args; omega
    have HDL := Lib.hid hdl
    clear hsz hdl
    have hlc : t.args.length ≤ c ∧ c ≤ maxLen := ⟨hA.1, hA.2.1⟩
    unfold maxLen at hlc
    obtain ⟨hl1, hl2⟩ := hlc
    generalize hL : t.args.length = len at *
    have HL := Lib.hid hL
    clear hL
    have HA := Lib.hid hA
    clear hA
    go_enter Try.func73, Try.ntmps73
    go_wp2
    go_loopw [3, 4] (fun n i wr => ∃ k : Nat, k ≤ len ∧ i = .int .i64 k ∧ n = .int .i64 (T.depths (t.args.take k) : Nat) ∧ Below (w.heap.size + 1) (w.alloc (tmCells t.head a len c)) wr)
      (fun _ i _ => len - (intOf i).toNat)
    case atStart => exact ⟨0, Nat.zero_le _, rfl, by simp [T.depths], Below.refl _ _⟩
    case round =>
      obtain ⟨k, hk, rfl, rfl, hB⟩ := hrel
      generalize hm' : T.depths (t.args.take k) = m at *
      have hmb : m ≤ 1000000000000 := by
        have h3 := T.depths_append (t.args.take k) (t.args.drop k)
        rw [List.take_append_drop] at h3
        have := HDL.out
        omega
      have HM := Lib.hid hm'
      clear hm'
      have hbox : wr.cell? ⟨w.heap.size, 1, none⟩ = some (.slice a len c) := (hB.cell (p := ⟨w.heap.size, 1, none⟩) (by simp)).trans (by simp [go_sem])
      have HB := Lib.hid hB
      clear hB
      by_cases hlt : k < len
      · have hw : Below n₀ w wr := ((Below.refl n₀ w).alloc hn _).trans (HB.out.mono (by omega))
        obtain ⟨b, o, s, a', c', rfl, hbn, hs, hwf, hc1, hc2, hA'⟩ := (HA.out.below hw).elem (i := k) (by rw [HL.out]; exact hlt)
        have hs1 : wr.heap.size ≥ w.heap.size + 1 := by have := HB.out.size; simpa using this
        have hsN : s.size ≤ N := by have := T.size_lt_of_mem hs; have := HS.out; omega
        have hsb : s.size ≤ 1000000000000 := by have := T.size_lt_of_mem hs; have := HS.out; omega
        have HSS := Lib.hid hs
        have HA' := Lib.hid hA'
        clear hs hA' hw hwf
        go_wp2_with fail
        refine (IH.out s hsN hsb n₀ a' c' wr (by omega) HA'.out).mono ?_
        rintro e w2 ⟨rfl, hB2⟩
        generalize hr : s.depth = r at *
        have HR := Lib.hid hr
        have HB2 := Lib.hid hB2
        clear hr hB2
        go_wp2
        go_roundw
        case rel =>
          refine ⟨k + 1, by omega, by go_num, ?_, HB.out.trans (HB2.out.mono (by omega))⟩
          have h1 := HM.out
          have h2 := HR.out
          have h3 := T.depths_take HSS.out
          rw [h1, h2] at h3
          rw [h3]
          congr 1
          omega
        case measure => simp [intOf]; omega
      · go_wp2
        go_ret
        refine ⟨?_, (((Below.refl w.heap.size w).alloc (Nat.le_refl _) _).trans (HB.out.mono (by omega)))⟩
        have h1 := HM.out
        have h2 := HD.out
        rw [List.take_of_length_le (by have := HL.out; omega)] at h1
        rw [h2, h1]
        show Ending.returned (Value.int .i64 ((m : Int) + 1)) = _
        congr 2
        omega



set_option maxRecDepth 100000 in
set_option maxHeartbeats 1000000 in
theorem refGood_any : ∀ (N : Nat) (t : T), t.size ≤ N → t.size ≤ 1000000000000 → ∀ (n₀ : Nat) (a : Option Addr) (c : Nat) (w : World), n₀ ≤ w.heap.size → IsArgs n₀ w t.args a c →
    Calls Try.prog 74 #[tm t.head a t.args.length c] w fun e w' => e = .returned (.bool (!bad (T.subs 1 t))) ∧ Below w.heap.size w w' := by
  intro N
  induction N with
  | zero => intro t ht; have := T.size_pos t; omega
  | succ N ih =>
    intro t ht hbig n₀ a c w hn hA
    have IH := Lib.hid ih
    clear ih
    have HS := Lib.hid (T.size_eq t)
    have HE := Lib.hid (bad_eq t)
    have hlc : t.args.length ≤ c ∧ c ≤ maxLen := ⟨hA.1, hA.2.1⟩
    unfold maxLen at hlc
    obtain ⟨hl1, hl2⟩ := hlc
    generalize hL : t.args.length = len at *
    have HL := Lib.hid hL
    clear hL
    have HA := Lib.hid hA
    have HF := Lib.hid (show Below w.heap.size w (w.alloc (tmCells t.head a len c)) from (Below.refl _ _).alloc (Nat.le_refl _) _)
    clear hA
    have hokN : ∀ (P : Prop), P → (okB t.head len = false) → True := fun _ _ _ => trivial
    clear hokN
    by_cases q1 : t.head < 0
    · by_cases q2 : 0 < len
      · have hd : bad (T.subs 1 t) = true := by rw [HE.out]; simp [okB, q1, show ¬ len = 0 from by omega]
        rw [hd]
        go_enter Try.func74, Try.ntmps74
        go_wp2
        go_ret
        exact ⟨by first | (rw [hd]; rfl) | rfl, HF.out⟩
      · obtain rfl : len = 0 := by omega
        by_cases q3 : t.head < -256
        · have hd : bad (T.subs 1 t) = true := by rw [HE.out]; simp [okB, q1, show ¬ -1 - t.head ≤ 255 from by omega]
          rw [hd]
          go_enter Try.func74, Try.ntmps74
          go_wp2
          go_ret
          exact ⟨by first | (rw [hd]; rfl) | rfl, HF.out⟩
        · have hd : bad (T.subs 1 t) = false := by
            rw [HE.out, List.eq_nil_of_length_eq_zero HL.out]
            simp [okB, q1, show -1 - t.head ≤ 255 from by omega, T.subss, bad]
          rw [hd]
          have q4 : ¬ 1023 < t.head := by omega
          have q5 : ¬ (8 : Int) < 0 := by omega
          go_enter Try.func74, Try.ntmps74
          go_wp2
          go_loopw [3] (fun i wr => i = .int .i64 0 ∧ wr = w.alloc (tmCells t.head a 0 c)) (fun _ _ => 0)
          case atStart => exact ⟨by first | (rw [hd]; rfl) | rfl, rfl⟩
          case round =>
            obtain ⟨rfl, rfl⟩ := hrel
            go_wp2
            go_ret
            exact ⟨by first | (rw [hd]; rfl) | rfl, HF.out⟩
    · have q3 : ¬ t.head < -256 := by omega
      by_cases q4 : 1023 < t.head
      · have hd : bad (T.subs 1 t) = true := by rw [HE.out]; simp [okB, q1, show ¬ t.head ≤ 1023 from by omega]
        rw [hd]
        go_enter Try.func74, Try.ntmps74
        go_wp2
        go_ret
        exact ⟨by first | (rw [hd]; rfl) | rfl, HF.out⟩
      · by_cases q5 : 8 < len
        · have hd : bad (T.subs 1 t) = true := by rw [HE.out]; simp [okB, q1, show ¬ len ≤ 8 from by omega]
          have q5' : (8 : Int) < (len : Int) := by omega
          rw [hd]
          go_enter Try.func74, Try.ntmps74
          go_wp2
          go_ret
          exact ⟨by first | (rw [hd]; rfl) | rfl, HF.out⟩
        · have hd : bad (T.subs 1 t) = bad (T.subss 2 t.args) := by rw [HE.out]; simp [okB, q1, show t.head ≤ 1023 from by omega, show len ≤ 8 from by omega]
          have q5' : ¬ (8 : Int) < (len : Int) := by omega
          rw [hd]
          clear hd
          go_enter Try.func74, Try.ntmps74
          go_wp2
          go_loopw [3] (fun i wr => ∃ k : Nat, k ≤ len ∧ i = .int .i64 k ∧ bad (T.subss 2 (t.args.take k)) = false ∧ Below (w.heap.size + 1) (w.alloc (tmCells t.head a len c)) wr)
            (fun i _ => len - (intOf i).toNat)
          case atStart => exact ⟨0, Nat.zero_le _, rfl, by simp [T.subss, bad], Below.refl _ _⟩
          case round =>
            obtain ⟨k, hk, rfl, hbd, hB⟩ := hrel
            have HBD := Lib.hid hbd
            have hbox : wr.cell? ⟨w.heap.size, 1, none⟩ = some (.slice a len c) := (hB.cell (p := ⟨w.heap.size, 1, none⟩) (by simp)).trans (by simp [go_sem])
            have HB := Lib.hid hB
            clear hB hbd
            by_cases hlt : k < len
            · have hw : Below n₀ w wr := ((Below.refl n₀ w).alloc hn _).trans (HB.out.mono (by omega))
              obtain ⟨b, o, s, a', c', rfl, hbn, hs, hwf, hc1, hc2, hA'⟩ := (HA.out.below hw).elem (i := k) (by rw [HL.out]; exact hlt)
              have hs1 : wr.heap.size ≥ w.heap.size + 1 := by have := HB.out.size; simpa using this
              have hsN : s.size ≤ N := by have := T.size_lt_of_mem hs; have := HS.out; omega
              have hsb : s.size ≤ 1000000000000 := by have := T.size_lt_of_mem hs; have := HS.out; omega
              have HSS := Lib.hid hs
              have HA' := Lib.hid hA'
              clear hs hA' hw hwf
              go_wp2_with fail
              refine (IH.out s hsN hsb n₀ a' c' wr (by omega) HA'.out).mono ?_
              rintro e w2 ⟨rfl, hB2⟩
              have HB2 := Lib.hid (HB.out.trans (hB2.mono (by omega)))
              clear hB2
              cases hb : bad (T.subs 1 s)
              · have HBS := Lib.hid hb
                clear hb
                go_wp2
                go_roundw
                case rel => exact ⟨k + 1, by omega, by go_num, by rw [bads_take HSS.out, HBD.out, HBS.out]; rfl, HB2.out⟩
                case measure => simp [intOf]; omega
              · have hd := bads_mem HSS.out hb
                clear hb
                go_wp2
                go_ret
                exact ⟨by first | (rw [hd]; rfl) | rfl, ((Below.refl w.heap.size w).alloc (Nat.le_refl _) _).trans (HB2.out.mono (by omega))⟩
            · have hd := HBD.out
              rw [List.take_of_length_le (by have := HL.out; omega)] at hd
              go_wp2
              go_ret
              exact ⟨by first | (rw [hd]; rfl) | rfl, ((Below.refl w.heap.size w).alloc (Nat.le_refl _) _).trans (HB.out.mono (by omega))⟩

set_option maxRecDepth 100000 in
set_option maxHeartbeats 1000000 in
theorem refCheck_any (t : T) (ht : t.size ≤ 1000000000000) (n₀ : Nat) (a : Option Addr) (c : Nat) (w : World) (hn : n₀ ≤ w.heap.size) (hA : IsArgs n₀ w t.args a c) :
    Calls Try.prog 50 #[tm t.head a t.args.length c] w fun e w' => e = .returned (.int .i64 t.check) ∧ Below w.heap.size w w' := by
  have hdl := T.depth_le_size t
  obtain ⟨w1, hw1⟩ : ∃ w1, w.alloc (tmCells t.head a t.args.length c) = w1 := ⟨_, rfl⟩
  have hb1 : Below w.heap.size w w1 := by rw [← hw1]; exact (Below.refl _ w).alloc (Nat.le_refl _) _
  have L1 := Lib.hid (show ∀ W, Below w1.heap.size w1 W → W.cell? ⟨w.heap.size, 0, none⟩ = some (.int .i64 t.head) ∧ W.cell? ⟨w.heap.size, 1, none⟩ = some (.slice a t.args.length c) ∧ IsArgs n₀ W t.args a c ∧ Below w.heap.size w W ∧ n₀ ≤ W.heap.size from fun W hW => by
    have h := hb1.trans (hW.mono hb1.size)
    exact ⟨(hW.cell (p := ⟨w.heap.size, 0, none⟩) (by rw [← hw1]; simp)).trans (by rw [← hw1]; simp [go_sem]), (hW.cell (p := ⟨w.heap.size, 1, none⟩) (by rw [← hw1]; simp)).trans (by rw [← hw1]; simp [go_sem]), hA.below (h.mono hn), h, Nat.le_trans hn h.size⟩)
  clear hA hb1
  obtain ⟨c0, c1, _, _, _⟩ := L1.out w1 (Below.refl _ _)
  go_enter Try.func50, Try.ntmps50
  go_wp2_with fail
  obtain ⟨_, _, hA, hb, hz⟩ := L1.out w1 (Below.refl _ _)
  clear hw1 c0 c1
  refine (refSize_any t.size t (Nat.le_refl _) ht n₀ a c w1 hz hA).mono ?_
  rintro e w2 ⟨rfl, hb2⟩
  clear hA hb hz
  obtain ⟨c0, c1, hA, hb, hz⟩ := L1.out w2 hb2
  by_cases q1 : 400 < t.size
  · have hd : t.check = 2 := by unfold T.check; rw [if_pos q1]
    have q1' : (400 : Int) < (t.size : Int) := by omega
    have HB := Lib.hid hb
    clear hb2 hA hb
    go_wp2
    go_ret
    exact ⟨by first | (rw [hd]; rfl) | rfl, HB.out⟩
  · have q1' : ¬ (400 : Int) < (t.size : Int) := by omega
    have HA := Lib.hid hA
    have HB2 := Lib.hid hb2
    clear hA hb hb2
    go_wp2_with fail
    refine (refDepth_any t.size t (Nat.le_refl _) ht n₀ a c w2 hz HA.out).mono ?_
    rintro e w3 ⟨rfl, hb3⟩
    have hb3' := HB2.out.trans (hb3.mono HB2.out.size)
    clear c0 c1 HA hz hb3
    obtain ⟨c0, c1, hA, hb, hz⟩ := L1.out w3 hb3'
    by_cases q2 : 40 < t.depth
    · have hd : t.check = 7 := by unfold T.check; rw [if_neg q1, if_pos q2]
      have q2' : (40 : Int) < (t.depth : Int) := by omega
      have HB := Lib.hid hb
      clear hb3' hA hb
      go_wp2
      go_ret
      exact ⟨by first | (rw [hd]; rfl) | rfl, HB.out⟩
    · have q2' : ¬ (40 : Int) < (t.depth : Int) := by omega
      have HA := Lib.hid hA
      have HB3 := Lib.hid hb3'
      clear hA hb hb3'
      go_wp2_with fail
      refine (refGood_any t.size t (Nat.le_refl _) ht n₀ a c w3 hz HA.out).mono ?_
      rintro e w4 ⟨rfl, hb4⟩
      have hb4' := HB3.out.trans (hb4.mono HB3.out.size)
      clear c0 c1 HA hz hb4
      obtain ⟨_, _, hA, hb, hz⟩ := L1.out w4 hb4'
      have HB := Lib.hid hb
      clear hb4' hA hb
      cases hbd : bad (T.subs 1 t)
      · have hd : t.check = 0 := by unfold T.check; rw [if_neg q1, if_neg q2, hbd]; rfl
        go_wp2
        go_ret
        exact ⟨by first | (rw [hd]; rfl) | rfl, HB.out⟩
      · have hd : t.check = 1 := by unfold T.check; rw [if_neg q1, if_neg q2, hbd]; rfl
        go_wp2
        go_ret
        exact ⟨by first | (rw [hd]; rfl) | rfl, HB.out⟩

end Go.Proofs.Ytbfanbaijombaaa

/- Contracts of the document's answer for signatures and weights (layer 7). -/
namespace Go.Proofs.Ytbfanbaijombaaa
set_option linter.unusedVariables false
set_option linter.unusedSimpArgs false
open Go.RowKit

theorem bl_drew' (W : World) (n : Nat) : Below W.heap.size W (W.drewN n) := ⟨rfl, rfl, rfl, Nat.le_refl _, fun _ _ => rfl⟩
theorem rightG_false {g : Sg} (h : ¬ (1 ≤ g.length ∧ g.length ≤ 256)) : rightG g = false := by
  unfold rightG
  by_cases h1 : 1 ≤ g.length
  · have h2 : ¬ g.length ≤ 256 := fun e => h ⟨h1, e⟩
    simp [h1, h2]
  · simp [h1]
theorem rightG_bad {g : Sg} {k : Nat} {x : Sy} (hx : g[k]? = some x) (hb : badSy x = true) : rightG g = false := by
  have : g.any badSy = true := List.any_eq_true.2 ⟨x, List.mem_of_getElem? hx, hb⟩
  unfold rightG
  simp [this]
theorem rightG_same {g : Sg} {k j : Nat} {x y : Sy} (hx : g[k]? = some x) (hj : j < k) (hy : g[j]? = some y) (e : y.name = x.name) : rightG g = false := by
  have : difSg g = false := by
    cases hd : difSg g with
    | false => rfl
    | true => exact absurd e (difSg_iff.1 hd k j x y hj hx hy)
  unfold rightG
  simp [this]
theorem rightG_end {g : Sg} {x : Sy} (h1 : 1 ≤ g.length) (h2 : g.length ≤ 256) (hx : g[0]? = some x) (hb : ∀ (j : Nat) (y : Sy), j < g.length → g[j]? = some y → badSy y = false) (hd : difK g g.length) : rightG g = decide (x = sy0) := by
  have hd' := difK_all.1 hd
  have hany : g.any badSy = false := by
    rw [List.any_eq_false]
    intro y hy
    obtain ⟨j, hj⟩ := List.getElem?_of_mem hy
    simp [hb j y (List.getElem?_eq_some_iff.1 hj).1 hj]
  unfold rightG
  simp [h1, h2, hx, hd', hany]
theorem eqlSym (x y : Sy) (w : World) : Sem.run Try.prog (binOp .eql 55 (sy x) (sy y)) w = .ok (.bool (decide (x = y))) w := by
  have h := neqSym x y w
  simp only [sy] at h ⊢
  rw [run_neq_struct] at h
  rw [run_eql_struct]
  generalize (Op.equalIn 10000 55 (.agg #[.string x.name, .int .i64 x.ar, .int .i64 x.wt, .bool x.tr]) (.agg #[.string y.name, .int .i64 y.ar, .int .i64 y.wt, .bool y.tr])).run Try.prog w = r at h ⊢
  cases r with
  | ok b w' =>
    simp only [Result.andThen] at h ⊢
    injection h with h1 h2
    injection h1 with h1
    subst h2
    have : b = decide (x = y) := by
      by_cases e : x = y
      · simp [e] at h1 ⊢; exact h1
      · simp [e] at h1 ⊢; exact h1
    rw [this]
  | halt a w' => simp [Result.andThen] at h

def RiI (g : Sg) (w : World) (i : Value) (wr : World) : Prop := ∃ k : Nat, k ≤ g.length ∧ i = .int .i64 k ∧ (∀ (j : Nat) (y : Sy), j < k → g[j]? = some y → badSy y = false) ∧ difK g k ∧ Below w.heap.size w wr
def RiJ (g : Sg) (x : Sy) (k : Nat) (B : Nat) (w1 : World) (i : Value) (wr : World) : Prop := ∃ j : Nat, j ≤ k ∧ i = .int .i64 j ∧ (∀ (l : Nat) (y : Sy), l < j → g[l]? = some y → y.name ≠ x.name) ∧ Below B w1 wr

set_option maxRecDepth 100000 in
set_option maxHeartbeats 4000000 in
theorem r7Right_any (g : Sg) (n₀ : Nat) (a : Option Addr) (c : Nat) (w : World) (hn : n₀ ≤ w.heap.size) (hG : IsSg n₀ w g a c) :
    Calls Try.prog 49 #[.slice a g.length c] w fun e w' => e = .returned (.bool (rightG g)) ∧ Below w.heap.size w w' := by
  have hlc : g.length ≤ c ∧ c ≤ maxLen := ⟨hG.1, hG.2.1⟩
  unfold maxLen at hlc
  obtain ⟨hl1, hl2⟩ := hlc
  have HG := Lib.hid hG
  clear hG
  by_cases q1 : g.length < 1
  · have HE := Lib.hid (rightG_false (g := g) (by omega))
    go_enter Try.func49, Try.ntmps49
    go_wp2
    go_ret
    exact ⟨by rw [HE.out]; rfl, Below.refl _ _⟩
  by_cases q2 : 256 < g.length
  · have HE := Lib.hid (rightG_false (g := g) (by omega))
    go_enter Try.func49, Try.ntmps49
    go_wp2
    go_ret
    exact ⟨by rw [HE.out]; rfl, Below.refl _ _⟩
  go_enter Try.func49, Try.ntmps49
  go_wp2
  go_loopw [3, 4, 5] (fun i _ _ wr => RiI g w i wr) (fun i _ _ _ => g.length - (intOf i).toNat)
  case atStart => exact ⟨0, Nat.zero_le _, rfl, fun j y hj => by omega, fun i j x y hi => by omega, Below.refl _ _⟩
  case round =>
    obtain ⟨k, hk, rfl, hbd, hdk, hB⟩ := hrel
    have HBD := Lib.hid hbd
    have HDK := Lib.hid hdk
    have HB := Lib.hid hB
    have hbz := hB.size
    clear hbd hdk hB
    by_cases hlt : k < g.length
    · obtain ⟨b, o, x, rfl, hbn, hs, hxw, hc0, hc1, hc2, hc3⟩ := (HG.out.below (HB.out.mono hn)).elem (i := k) hlt
      have hk0 : (0 : Int) ≤ (k : Int) := Int.natCast_nonneg _
      have hk1 : (k : Int) < (g.length : Int) := by omega
      have hbw : b < wr.heap.size := by omega
      have HXK := Lib.hid hs
      have hb1 : Below w.heap.size w (wr.alloc (.cells #[.string x.name, .int .i64 x.ar, .int .i64 x.wt, .bool x.tr] 55)) := HB.out.alloc hbz _
      have HB1 := Lib.hid hb1
      have hxs : x.name.size ≤ 9223372036854775807 := by have := hxw.1; unfold maxLen at this; omega
      clear hs hxw hb1
      by_cases hbad : badSy x = true
      · have HE := Lib.hid (rightG_bad HXK.out hbad)
        have hcs : (x.name.size < 1) ∨ (¬ x.name.size < 1 ∧ 64 < x.name.size) ∨ (¬ x.name.size < 1 ∧ ¬ 64 < x.name.size ∧ x.ar < 0) ∨ (¬ x.name.size < 1 ∧ ¬ 64 < x.name.size ∧ ¬ x.ar < 0 ∧ 8 < x.ar) ∨ (¬ x.name.size < 1 ∧ ¬ 64 < x.name.size ∧ ¬ x.ar < 0 ∧ ¬ 8 < x.ar ∧ x.wt < 1) ∨ (¬ x.name.size < 1 ∧ ¬ 64 < x.name.size ∧ ¬ x.ar < 0 ∧ ¬ 8 < x.ar ∧ ¬ x.wt < 1 ∧ 1000 < x.wt) := by
          simp only [badSy, Bool.or_eq_true, decide_eq_true_eq] at hbad
          omega
        clear hbad
        rcases hcs with h1 | ⟨h1, h2⟩ | ⟨h1, h2, h3⟩ | ⟨h1, h2, h3, h4⟩ | ⟨h1, h2, h3, h4, h5⟩ | ⟨h1, h2, h3, h4, h5, h6⟩
        all_goals
          go_wp2
          go_ret
          exact ⟨by rw [HE.out]; rfl, HB1.out⟩
      · have HNB := Lib.hid (show badSy x = false from by simpa using hbad)
        simp only [badSy, Bool.or_eq_true, decide_eq_true_eq, not_or] at hbad
        obtain ⟨⟨⟨⟨⟨h1, h2⟩, h3⟩, h4⟩, h5⟩, h6⟩ := hbad
        go_wp2
        have hsz1 : (wr.alloc (.cells #[.string x.name, .int .i64 x.ar, .int .i64 x.wt, .bool x.tr] 55)).heap.size = wr.heap.size + 1 := by simp
        have hx0 : (wr.alloc (.cells #[.string x.name, .int .i64 x.ar, .int .i64 x.wt, .bool x.tr] 55)).cell? ⟨wr.heap.size, 0, none⟩ = some (.string x.name) := by simp [go_sem]
        generalize wr.alloc (.cells #[.string x.name, .int .i64 x.ar, .int .i64 x.wt, .bool x.tr] 55) = w1 at *
        generalize hB0 : wr.heap.size = B0 at *
        go_loopw [5] (fun i wi => RiJ g x k (B0 + 1) w1 i wi) (fun i _ => k - (intOf i).toNat)
        case atStart => exact ⟨0, Nat.zero_le _, rfl, fun j y hj => by omega, Below.refl _ _⟩
        case round =>
          obtain ⟨j, hj, rfl, hno, hB2⟩ := hrel
          have HNO := Lib.hid hno
          have HB2 := Lib.hid hB2
          have hB2z := hB2.size
          clear hno hB2
          by_cases hjk : j < k
          · have hx0' := (HB2.out.cell (p := ⟨B0, 0, none⟩) (by simp)).trans hx0
            have hBr : Below w.heap.size w wr := HB1.out.trans (HB2.out.mono (by omega))
            obtain ⟨b', o', y, hbo, hbn', hy, hyw, hd0, _, _, _⟩ := (HG.out.below (hBr.mono hn)).elem (i := j) (by omega)
            injection hbo with hbo
            injection hbo with hbo1 hbo2
            subst hbo1 hbo2
            have hj0 : (0 : Int) ≤ (j : Int) := Int.natCast_nonneg _
            have hj1 : (j : Int) < (g.length : Int) := by omega
            have hj2 : (j : Int) < (k : Int) := by omega
            have HY := Lib.hid hy
            have HBR := Lib.hid hBr
            clear hy hyw hBr
            by_cases he : y.name = x.name
            · have HE := Lib.hid (rightG_same HXK.out hjk HY.out he)
              rw [← he] at hx0'
              go_wp2
              go_quiet (fail)
              go_wp2
              go_ret
              exact ⟨by rw [HE.out]; rfl, HBR.out.trans ((bl_drew' _ _).mono HBR.out.size)⟩
            · have hne3 : (y.name.toList == x.name.toList) = false := by simpa using (show y.name.toList ≠ x.name.toList from fun e => he ((tl_iff _ _).1 e))
              go_wp2
              go_quiet (fail)
              go_wp2
              go_roundw
              case rel => exact ⟨j + 1, by omega, by go_num, fun l z hl hz => by
                by_cases e : l = j
                · subst e; rw [HY.out] at hz; obtain rfl := Option.some.inj hz; exact he
                · exact HNO.out l z (by omega) hz, HB2.out.trans ((bl_drew' _ _).mono (by omega))⟩
              case measure => simp [intOf]; omega
          · obtain rfl : j = k := by omega
            go_wp2
            go_roundw
            case rel => exact ⟨j + 1, by omega, by go_num, fun l z hl hz => by
                by_cases e : l = j
                · subst e; rw [HXK.out] at hz; obtain rfl := Option.some.inj hz; exact HNB.out
                · exact HBD.out l z (by omega) hz, (difK_step HXK.out).2 ⟨HDK.out, fun l z hl hz => HNO.out l z hl hz⟩, HB1.out.trans (HB2.out.mono (by omega))⟩
            case measure => simp [intOf]; omega
    · obtain rfl : k = g.length := by omega
      obtain ⟨b, o, x, rfl, hbn, hs, hxw, hc0, hc1, hc2, hc3⟩ := (HG.out.below (HB.out.mono hn)).elem (i := 0) (by omega)
      simp only [Nat.zero_mul, Nat.add_zero] at hc0 hc1 hc2 hc3
      have HE := Lib.hid (rightG_end (by omega) (by omega) hs HBD.out HDK.out)
      have hgd := fun (op : BinOp) (p q : Operand) (u v : Array Value) (W : World) => run_eqGuard_agg (P := Try.prog) W op 55 p q u v (by kernel_rfl)
      have heql : ∀ W, Sem.run Try.prog (binOp .eql 55 (.agg #[.string x.name, .int .i64 x.ar, .int .i64 x.wt, .bool x.tr]) (.agg #[.string ⟨#[36, 116, 114, 117, 101]⟩, .int .i64 0, .int .i64 1, .bool true])) W = .ok (.bool (decide (x = sy0))) W := fun W => eqlSym x sy0 W
      clear hs hxw
      have h0k : (0 : Int) < (g.length : Int) := by omega
      go_wp2
      go_ret
      exact ⟨by rw [HE.out]; rfl, HB.out⟩

end Go.Proofs.Ytbfanbaijombaaa
