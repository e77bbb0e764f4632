/- QBd: joined of Ref, Ord. -/
import Derived.Test.YtbdabdjpgmnejaaQBb
import Derived.Lib.QuietBelow
import Derived.BigQuiet
import Derived.Test.YtbdabdjpgmnejaaSub
import Derived.Laws.OwnMore
import Derived.WalkSmall
/- The document's answers: Size, order, Compare, Same of the reference package. -/
namespace Go.Proofs.Ytbdabdjpgmnejaa
set_option linter.unusedVariables false
set_option linter.unusedSimpArgs false
open Go.RowKit Go.Sort
theorem refSize_any : ∀ (N : Nat) (t : T), t.size ≤ N → t.size ≤ 1000000000000 → ∀ (n₀ : Nat) (a : Option Addr) (c : Nat) (w : World), n₀ ≤ w.heap.size → IsArgs n₀ w t.args a c →
    Calls Try.prog 49 #[tm t.head a t.args.length c] w fun e w' => e = .returned (.int .i64 (t.size : Nat)) ∧ Below w.heap.size w w' := by
  intro N
  induction N with
  | zero => intro t ht; have := T.size_pos t; omega
  | succ N ih =>
    intro t ht hbig n₀ a c w hn hA
    have IH := Lib.hid ih
    clear ih
    have hsz := T.size_eq t
    have HS := Lib.hid hsz
    clear hsz
    have hlc : t.args.length ≤ c ∧ c ≤ maxLen := ⟨hA.1, hA.2.1⟩
    unfold maxLen at hlc
    obtain ⟨hl1, hl2⟩ := hlc
    generalize hL : t.args.length = len at *
    have HL := Lib.hid hL
    clear hL
    have HA := Lib.hid hA
    clear hA
    go_enter Try.func49, Try.ntmps49
    go_wp2
    go_loopw [3, 4] (fun n i wr => ∃ k : Nat, k ≤ len ∧ i = .int .i64 k ∧ n = .int .i64 (1 + T.sizes (t.args.take k) : Nat) ∧ Below (w.heap.size + 1) (w.alloc (tmCells t.head a len c)) wr)
      (fun _ i _ => len - (intOf i).toNat)
    case atStart => exact ⟨0, Nat.zero_le _, rfl, by simp [T.sizes], Below.refl _ _⟩
    case round =>
      obtain ⟨k, hk, rfl, rfl, hB⟩ := hrel
      generalize hm' : 1 + T.sizes (t.args.take k) = m at *
      have hmb : m ≤ 1000000000000 := by
        have h3 := T.sizes_append (t.args.take k) (t.args.drop k)
        rw [List.take_append_drop] at h3
        have := HS.out
        omega
      have HM := Lib.hid hm'
      clear hm'
      have hbox : wr.cell? ⟨w.heap.size, 1, none⟩ = some (.slice a len c) := (hB.cell (p := ⟨w.heap.size, 1, none⟩) (by simp)).trans (by simp [go_sem])
      have HB := Lib.hid hB
      clear hB
      by_cases hlt : k < len
      · have hw : Below n₀ w wr := ((Below.refl n₀ w).alloc hn _).trans (HB.out.mono (by omega))
        obtain ⟨b, o, s, a', c', rfl, hbn, hs, hwf, hc1, hc2, hA'⟩ := (HA.out.below hw).elem (i := k) (by rw [HL.out]; exact hlt)
        have hs1 : wr.heap.size ≥ w.heap.size + 1 := by have := HB.out.size; simpa using this
        have hsN : s.size ≤ N := by have := T.size_lt_of_mem hs; have := HS.out; omega
        have hsb : s.size ≤ 1000000000000 := by have := T.size_lt_of_mem hs; have := HS.out; omega
        have HSS := Lib.hid hs
        have HA' := Lib.hid hA'
        clear hs hA' hw hwf
        go_wp2_with fail
        refine (IH.out s hsN hsb n₀ a' c' wr (by omega) HA'.out).mono ?_
        rintro e w2 ⟨rfl, hB2⟩
        generalize hr : s.size = r at *
        have HR := Lib.hid hr
        have HB2 := Lib.hid hB2
        clear hr hB2
        go_wp2
        go_roundw
        case rel =>
          refine ⟨k + 1, by omega, by go_num, ?_, HB.out.trans (HB2.out.mono (by omega))⟩
          have h1 := HM.out
          have h2 := HR.out
          have h3 := T.sizes_take HSS.out
          rw [show ((m : Int) + (r : Int)) = ((m + r : Nat) : Int) from by omega]
          exact congrArg (fun x : Nat => Value.int .i64 (x : Int)) (by omega)
        case measure => simp [intOf]; omega
      · go_wp2
        go_ret
        refine ⟨?_, (((Below.refl w.heap.size w).alloc (Nat.le_refl _) _).trans (HB.out.mono (by omega)))⟩
        have h1 := HM.out
        have h2 := HS.out
        rw [List.take_of_length_le (by have := HL.out; omega)] at h1
        exact congrArg (fun x : Nat => Ending.returned (.int .i64 (x : Int))) (by omega)
def ord (a b : Int) : Int := if a < b then -1 else if b < a then 1 else 0
theorem ord_zero {a b : Int} : ord a b = 0 ↔ a = b := by unfold ord; split <;> (try split) <;> omega
theorem order_any (a b : Int) (w : World) : Calls Try.prog 50 #[.int .i64 a, .int .i64 b] w fun e w' => e = .returned (.int .i64 (ord a b)) ∧ w' = w := by
  by_cases h1 : a < b
  · go_enter Try.func50, Try.ntmps50
    go_wp2
    go_ret
    exact ⟨by rw [ord, if_pos h1]; rfl, rfl⟩
  · by_cases h2 : b < a
    · go_enter Try.func50, Try.ntmps50
      go_wp2
      go_ret
      exact ⟨by rw [ord, if_neg (by omega), if_pos h2]; rfl, rfl⟩
    · go_enter Try.func50, Try.ntmps50
      go_wp2
      go_ret
      exact ⟨by rw [ord, if_neg (by omega), if_neg (by omega)]; rfl, rfl⟩
/-! ### Compare -/
mutual
def T.cmp : T → T → Int
  | .node h ts, t => if (T.node h ts).size ≠ t.size then ord (T.node h ts).size t.size else if h ≠ t.head then ord h t.head else if ts.length ≠ t.args.length then ord ts.length t.args.length else T.cmps ts t.args
def T.cmps : List T → List T → Int
  | [], _ => 0
  | _ :: _, [] => 0
  | x :: xs, y :: ys => if T.cmp x y ≠ 0 then T.cmp x y else T.cmps xs ys
end
theorem T.cmp_eq (x y : T) : T.cmp x y = if x.size ≠ y.size then ord x.size y.size else if x.head ≠ y.head then ord x.head y.head else if x.args.length ≠ y.args.length then ord x.args.length y.args.length else T.cmps x.args y.args := by
  cases x; cases y; rw [T.cmp]; rfl
theorem drop_at' {xs : List T} {j : Nat} {s : T} (h : xs[j]? = some s) : xs.drop j = s :: xs.drop (j + 1) := by
  obtain ⟨hi, e⟩ := List.getElem?_eq_some_iff.1 h
  rw [List.drop_eq_getElem_cons hi, e]
def RefCmpI (x y : T) (w2 : World) (i : Value) (wr : World) : Prop := ∃ k : Nat, k ≤ x.args.length ∧ i = .int .i64 k ∧ Below w2.heap.size w2 wr ∧ T.cmps (x.args.drop k) (y.args.drop k) = T.cmp x y
set_option maxRecDepth 100000 in
set_option maxHeartbeats 2000000 in
theorem refCompare_any : ∀ (N : Nat) (x y : T), x.size ≤ N → x.size ≤ 1000000000000 → y.size ≤ 1000000000000 → ∀ (n₀ : Nat) (a : Option Addr) (c : Nat) (a' : Option Addr) (c' : Nat) (w : World), n₀ ≤ w.heap.size → IsArgs n₀ w x.args a c → IsArgs n₀ w y.args a' c' →
    Calls Try.prog 34 #[tm x.head a x.args.length c, tm y.head a' y.args.length c'] w fun e w' => e = .returned (.int .i64 (T.cmp x y)) ∧ Below w.heap.size w w' := by
  intro N
  induction N with
  | zero => intro t _ ht; have := T.size_pos t; omega
  | succ N ih =>
    intro x y hx hxb hyb n₀ a c a' c' w hn hA hB
    have IH := Lib.hid ih
    clear ih
    have HA := Lib.hid (hA.mono hn)
    have HB := Lib.hid (hB.mono hn)
    clear hA hB hn n₀
    have hb2 : Below w.heap.size w ((w.alloc (tmCells x.head a x.args.length c)).alloc (tmCells y.head a' y.args.length c')) := ((Below.refl _ w).alloc (Nat.le_refl _) _).alloc (by simp) _
    have e1 : ((w.alloc (tmCells x.head a x.args.length c)).alloc (tmCells y.head a' y.args.length c')).cell? ⟨w.heap.size, 0, none⟩ = some (.int .i64 x.head) := by simp [go_sem]
    have e2 : ((w.alloc (tmCells x.head a x.args.length c)).alloc (tmCells y.head a' y.args.length c')).cell? ⟨w.heap.size, 1, none⟩ = some (.slice a x.args.length c) := by simp [go_sem]
    have e3 : ((w.alloc (tmCells x.head a x.args.length c)).alloc (tmCells y.head a' y.args.length c')).cell? ⟨w.heap.size + 1, 0, none⟩ = some (.int .i64 y.head) := by simp [go_sem]
    have e4 : ((w.alloc (tmCells x.head a x.args.length c)).alloc (tmCells y.head a' y.args.length c')).cell? ⟨w.heap.size + 1, 1, none⟩ = some (.slice a' y.args.length c') := by simp [go_sem]
    have hsz : ((w.alloc (tmCells x.head a x.args.length c)).alloc (tmCells y.head a' y.args.length c')).heap.size = w.heap.size + 2 := by simp
    have E := Lib.hid (And.intro hb2 (And.intro e1 (And.intro e2 (And.intro e3 (And.intro e4 hsz)))))
    clear hb2 e1 e2 e3 e4 hsz
    go_enter Try.func34, Try.ntmps34
    go_wp2
    generalize (w.alloc (tmCells x.head a x.args.length c)).alloc (tmCells y.head a' y.args.length c') = wB at E ⊢
    obtain ⟨hb2, e1, e2, e3, e4, hsz⟩ := E.out
    have HBB := Lib.hid hb2
    have HSZ := Lib.hid hsz
    have cX : ∀ W, Below wB.heap.size wB W → Calls Try.prog 49 #[tm x.head a x.args.length c] W fun e w' => e = .returned (.int .i64 (x.size : Nat)) ∧ Below W.heap.size W w' := fun W hW =>
      refSize_any x.size x (Nat.le_refl _) hxb w.heap.size a c W (Nat.le_trans HBB.out.size hW.size) (HA.out.below (HBB.out.trans (hW.mono HBB.out.size)))
    have cY : ∀ W, Below wB.heap.size wB W → Calls Try.prog 49 #[tm y.head a' y.args.length c'] W fun e w' => e = .returned (.int .i64 (y.size : Nat)) ∧ Below W.heap.size W w' := fun W hW =>
      refSize_any y.size y (Nat.le_refl _) hyb w.heap.size a' c' W (Nat.le_trans HBB.out.size hW.size) (HB.out.below (HBB.out.trans (hW.mono HBB.out.size)))
    have CX := Lib.hid cX
    have CY := Lib.hid cY
    clear cX cY hb2 hsz E
    have E1 := Lib.hid e1
    have E2 := Lib.hid e2
    have E3 := Lib.hid e3
    have E4 := Lib.hid e4
    have f1 := fun d os => cell_regrown e1 d os
    have f2 := fun d os => cell_regrown e2 d os
    have f3 := fun d os => cell_regrown e3 d os
    have f4 := fun d os => cell_regrown e4 d os
    refine wp_region_quiet_below (by kernel_rfl) (by kernel_rfl) ?_
    repeat (quiet_step (first | with_reducible exact Calls.regrown_of (CX.out _ (below_regrown _ _ _)) | with_reducible exact Calls.regrown_of (CY.out _ (below_regrown _ _ _))))
    refine wpQuiet_nil ?_
    intro _ hw'
    obtain ⟨⟨dq, osq⟩, hw''⟩ := hw'
    subst hw''
    have hq := below_regrown wB dq osq
    generalize grow (redrawn wB dq) osq = w2 at hq ⊢
    clear f1 f2 f3 f4 e1 e2 e3 e4
    have hq1 : w.heap.size + 2 ≤ w2.heap.size := by have := hq.size; have := HSZ.out; omega
    have e1 := (hq.cell (p := ⟨w.heap.size, 0, none⟩) (by have := HSZ.out; simp; omega)).trans E1.out
    have e2 := (hq.cell (p := ⟨w.heap.size, 1, none⟩) (by have := HSZ.out; simp; omega)).trans E2.out
    have e3 := (hq.cell (p := ⟨w.heap.size + 1, 0, none⟩) (by have := HSZ.out; simp; omega)).trans E3.out
    have e4 := (hq.cell (p := ⟨w.heap.size + 1, 1, none⟩) (by have := HSZ.out; simp; omega)).trans E4.out
    have HQ := Lib.hid hq
    have HW2 := Lib.hid (HBB.out.trans (hq.mono HBB.out.size))
    clear hq
    have hcmp := T.cmp_eq x y
    by_cases hs : x.size = y.size
    · rw [if_neg (by omega)] at hcmp
      have hs1 : ((x.size : Int) == (y.size : Int)) = true := by simp; omega
      have hs2 : ((x.size : Int) != (y.size : Int)) = false := by simp; omega
      have hs3 : (x.size == y.size) = true := by simp; omega
      have hs4 : (x.size != y.size) = false := by simp; omega
      clear hs
      simp only [hs1, hs2, hs3, hs4, Bool.not_true]
      by_cases hh : x.head = y.head
      · rw [if_neg (by simpa using hh)] at hcmp
        have hh1 : (x.head == y.head) = true := by simp; omega
        have hh2 : (x.head != y.head) = false := by simp; omega
        clear hh
        by_cases hl : x.args.length = y.args.length
        · rw [if_neg (by omega)] at hcmp
          have hl1 : ((x.args.length : Int) == (y.args.length : Int)) = true := by simp; omega
          have hl2 : ((x.args.length : Int) != (y.args.length : Int)) = false := by simp; omega
          have hl3 : (x.args.length == y.args.length) = true := by simp; omega
          have hl4 : (x.args.length != y.args.length) = false := by simp; omega
          have HL := Lib.hid hl
          have HC := Lib.hid hcmp
          clear hl hcmp
          have hlc : x.args.length ≤ c ∧ c ≤ maxLen := ⟨HA.out.1, HA.out.2.1⟩
          unfold maxLen at hlc
          obtain ⟨hlc1, hlc2⟩ := hlc
          go_wp2
          go_loopw [5] (fun i wr => RefCmpI x y w2 i wr) (fun i _ => x.args.length - (intOf i).toNat)
          case atStart => exact ⟨0, Nat.zero_le _, rfl, Below.refl _ _, by simpa using HC.out.symm⟩
          case round =>
            obtain ⟨k, hk, rfl, hbr, hcr⟩ := hrel
            clear e1 e2 e3 e4
            have e2 := (HQ.out.trans (hbr.mono HQ.out.size)).cell (p := ⟨w.heap.size, 1, none⟩) (by have := HSZ.out; simp; omega) |>.trans E2.out
            have e4 := (HQ.out.trans (hbr.mono HQ.out.size)).cell (p := ⟨w.heap.size + 1, 1, none⟩) (by have := HSZ.out; simp; omega) |>.trans E4.out
            have hsr : w2.heap.size ≤ wr.heap.size := hbr.size
            have HBR := Lib.hid hbr
            have HCR := Lib.hid hcr
            clear hbr hcr
            have hw : Below w.heap.size w wr := HW2.out.trans (HBR.out.mono (by omega))
            by_cases hlt : k < x.args.length
            · obtain ⟨b1, o1, s1, p1, q1, rfl, hbn1, hs1', hw1, hd1, hd2, hsA1⟩ := (HA.out.below hw).elem hlt
              obtain ⟨b2, o2, s2, p2, q2, rfl, hbn2, hs2', hw2, hd3, hd4, hsA2⟩ := (HB.out.below hw).elem (i := k) (by have := HL.out; omega)
              have hlt2 : k < y.args.length := by have := HL.out; omega
              have hlc3 : y.args.length ≤ c' := HB.out.1
              have z1 : s1.size ≤ x.size - 1 := by have := T.size_lt_of_mem hs1'; have := T.size_eq x; omega
              have z2 : s2.size ≤ y.size - 1 := by have := T.size_lt_of_mem hs2'; have := T.size_eq y; omega
              have cI : ∀ W, Below wr.heap.size wr W → Calls Try.prog 34 #[tm s1.head p1 s1.args.length q1, tm s2.head p2 s2.args.length q2] W fun e w' => e = .returned (.int .i64 (T.cmp s1 s2)) ∧ Below W.heap.size W w' := fun W hW =>
                IH.out s1 s2 (by omega) (by omega) (by omega) w.heap.size p1 q1 p2 q2 W (Nat.le_trans hw.size hW.size) (hsA1.below (hW.mono hw.size)) (hsA2.below (hW.mono hw.size))
              have CI := Lib.hid cI
              have HW := Lib.hid hw
              have HS1' := Lib.hid hs1'
              have HS2' := Lib.hid hs2'
              clear cI hw hs1' hs2' hsA1 hsA2 hw1 hw2 hbn1 hbn2 z1 z2
              have hi1 : (0 : Int) ≤ (k : Int) := by omega
              have hi2 : (k : Int) < (x.args.length : Int) := by omega
              have hi3 : (k : Int) < (y.args.length : Int) := by omega
              go_wp2
              have g2 := fun d os => cell_regrown e2 d os
              have g4 := fun d os => cell_regrown e4 d os
              have g5 := fun d os => cell_regrown hd1 d os
              have g6 := fun d os => cell_regrown hd2 d os
              have g7 := fun d os => cell_regrown hd3 d os
              have g8 := fun d os => cell_regrown hd4 d os
              refine wp_region_quiet_below (by kernel_rfl) (by kernel_rfl) ?_
              repeat (quiet_step (first | with_reducible exact Calls.regrown_of (CI.out _ (below_regrown _ _ _))))
              refine wpQuiet_nil ?_
              intro _ hw'
              obtain ⟨⟨dq, osq⟩, hw''⟩ := hw'
              subst hw''
              have hq3 := below_regrown wr dq osq
              generalize grow (redrawn wr dq) osq = w3 at hq3 ⊢
              have HQ3 := Lib.hid hq3
              clear hq3 g2 g4 g5 g6 g7 g8
              have hstep : T.cmps (x.args.drop k) (y.args.drop k) = if T.cmp s1 s2 ≠ 0 then T.cmp s1 s2 else T.cmps (x.args.drop (k + 1)) (y.args.drop (k + 1)) := by
                rw [drop_at' HS1'.out, drop_at' HS2'.out, T.cmps]
              have HST := Lib.hid (HCR.out.symm.trans hstep)
              clear hstep
              by_cases hz : T.cmp s1 s2 = 0
              · have hz1 : (T.cmp s1 s2 == 0) = true := by simp [hz]
                have hz2 : (T.cmp s1 s2 != 0) = false := by simp [hz]
                have HZ := Lib.hid hz
                clear hz
                go_wp2
                refine ⟨?_, ?_⟩
                · exact ⟨k + 1, by omega, by go_num, HBR.out.trans (HQ3.out.mono HBR.out.size), by rw [HST.out, if_neg (by simpa using HZ.out)]⟩
                · simp [intOf]; omega
              · have hz1 : (T.cmp s1 s2 == 0) = false := by simpa using hz
                have hz2 : (T.cmp s1 s2 != 0) = true := by simpa using hz
                go_wp2
                go_ret
                exact ⟨by rw [HST.out, if_pos hz]; rfl, HW.out.trans (HQ3.out.mono HW.out.size)⟩
            · have hkl : k = x.args.length := by omega
              go_wp2
              go_ret
              refine ⟨?_, hw⟩
              rw [← HCR.out, hkl, List.drop_length, T.cmps]; rfl
        · rw [if_pos (by omega)] at hcmp
          have hl1 : ((x.args.length : Int) == (y.args.length : Int)) = false := by simp; omega
          have hl2 : ((x.args.length : Int) != (y.args.length : Int)) = true := by simp; omega
          have hl3 : (x.args.length == y.args.length) = false := by simp; omega
          have hl4 : (x.args.length != y.args.length) = true := by simp; omega
          have HC := Lib.hid hcmp
          clear hcmp
          go_wp2_with (go_at_call 50; refine (order_any _ _ _).mono ?_; rintro e w' ⟨rfl, rfl⟩)
          go_ret
          exact ⟨by rw [HC.out]; rfl, HW2.out⟩
      · rw [if_pos (by simpa using hh)] at hcmp
        have hh1 : (x.head == y.head) = false := by simpa using hh
        have hh2 : (x.head != y.head) = true := by simpa using hh
        have HC := Lib.hid hcmp
        clear hcmp
        go_wp2_with (go_at_call 50; refine (order_any _ _ _).mono ?_; rintro e w' ⟨rfl, rfl⟩)
        go_ret
        exact ⟨by rw [HC.out]; rfl, HW2.out⟩
    · rw [if_pos (by omega)] at hcmp
      have hs1 : ((x.size : Int) == (y.size : Int)) = false := by simp; omega
      have hs2 : ((x.size : Int) != (y.size : Int)) = true := by simp; omega
      have hs3 : (x.size == y.size) = false := by simp; omega
      have hs4 : (x.size != y.size) = true := by simp; omega
      have HC := Lib.hid hcmp
      clear hcmp
      go_wp2
      have f1 := fun d os => cell_regrown e1 d os
      have f2 := fun d os => cell_regrown e2 d os
      have f3 := fun d os => cell_regrown e3 d os
      have f4 := fun d os => cell_regrown e4 d os
      refine wp_region_quiet_below (by kernel_rfl) (by kernel_rfl) ?_
      repeat (quiet_step (first | with_reducible exact Calls.regrown_of (CX.out _ (HQ.out.trans ((below_regrown _ _ _).mono HQ.out.size))) | with_reducible exact Calls.regrown_of (CY.out _ (HQ.out.trans ((below_regrown _ _ _).mono HQ.out.size))) | with_reducible exact Calls.regrown_of ((order_any _ _ _).mono fun _ _ h => ⟨h.1, h.2 ▸ Below.refl _ _⟩)))
      refine wpQuiet_nil ?_
      intro _ hw'
      obtain ⟨⟨dq, osq⟩, hw''⟩ := hw'
      subst hw''
      go_wp2
      go_ret
      exact ⟨by rw [HC.out]; rfl, HW2.out.trans ((below_regrown w2 dq osq).mono (by omega))⟩
theorem refSame_any (x y : T) (hx : x.size ≤ 1000000000000) (hy : y.size ≤ 1000000000000) (n₀ : Nat) (a : Option Addr) (c : Nat) (a' : Option Addr) (c' : Nat) (w : World) (hn : n₀ ≤ w.heap.size) (hA : IsArgs n₀ w x.args a c) (hB : IsArgs n₀ w y.args a' c') :
    Calls Try.prog 16 #[tm x.head a x.args.length c, tm y.head a' y.args.length c'] w fun e w' => e = .returned (.bool (decide (T.cmp x y = 0))) ∧ Below w.heap.size w w' := by
  have hC : ∀ W, Below w.heap.size w W → Calls Try.prog 34 #[tm x.head a x.args.length c, tm y.head a' y.args.length c'] W fun e w' => e = .returned (.int .i64 (T.cmp x y)) ∧ Below W.heap.size W w' := fun W hW =>
    refCompare_any x.size x y (Nat.le_refl _) hx hy n₀ a c a' c' W (Nat.le_trans hn hW.size) (hA.below (hW.mono hn)) (hB.below (hW.mono hn))
  have HC := Lib.hid hC
  clear hC hA hB
  go_enter Try.func16, Try.ntmps16
  go_wp2_with fail
  have hb : Below w.heap.size w ((w.alloc (tmCells x.head a x.args.length c)).alloc (tmCells y.head a' y.args.length c')) := ((Below.refl _ w).alloc (Nat.le_refl _) _).alloc (by simp) _
  refine (HC.out _ hb).mono ?_
  rintro e w2 ⟨rfl, hb2⟩
  have HB2 := Lib.hid (hb.trans (hb2.mono (by simp; omega)))
  clear hb hb2
  go_wp2
  go_ret
  refine ⟨?_, HB2.out⟩
  exact congrArg (fun q : Bool => Ending.returned (.bool q)) (by rw [Bool.eq_iff_iff]; simp)
end Go.Proofs.Ytbdabdjpgmnejaa

/- Ord: joined of Dif, Ord. -/
/- Where two terms differ first: plain definitions and lemmas; no program is named here. -/
namespace Go.Proofs.Ytbdabdjpgmnejaa
set_option linter.unusedVariables false
set_option linter.unusedSimpArgs false
open Go.RowKit
mutual
def T.dif : T → T → Option (List (List T × List T))
  | .node _ aas, t => T.difs aas t.args
def T.difs : List T → List T → Option (List (List T × List T))
  | [], _ => none
  | _ :: _, [] => none
  | x :: xs, y :: ys => if x.head ≠ y.head ∨ x.args.length ≠ y.args.length then some [(x :: xs, y :: ys)] else
      match T.dif x y with
      | some s => some (s ++ [(xs, ys)])
      | none => T.difs xs ys
end
/-- What a visit of two terms in step comes to, from the lists that are still to be compared on, the innermost first. -/
def resume : List (List T × List T) → Option (List (List T × List T))
  | [] => none
  | p :: fs => match T.difs p.1 p.2 with
    | some s => some (s ++ fs)
    | none => resume fs
theorem T.dif_eq (x y : T) : T.dif x y = T.difs x.args y.args := by cases x; simp [T.dif, T.args]
def differ (x y : T) : Prop := x.head ≠ y.head ∨ x.args.length ≠ y.args.length
theorem resume_differ {x y : T} {xs ys : List T} {fs : List (List T × List T)} (h : differ x y) : resume ((x :: xs, y :: ys) :: fs) = some ((x :: xs, y :: ys) :: fs) := by
  unfold differ at h
  simp [resume, T.difs, h]
theorem resume_push {x y : T} {xs ys : List T} {fs : List (List T × List T)} (h : ¬ differ x y) : resume ((x :: xs, y :: ys) :: fs) = resume ((x.args, y.args) :: (xs, ys) :: fs) := by
  unfold differ at h
  simp only [resume, T.difs, if_neg h, T.dif_eq]
  cases T.difs x.args y.args with
  | none => rfl
  | some s => simp
theorem resume_pop {fs : List (List T × List T)} {ys : List T} : resume (([], ys) :: fs) = resume fs := by simp [resume, T.difs]
theorem resume_leaf {x y : T} {xs ys : List T} {fs : List (List T × List T)} (h : ¬ differ x y) (h0 : x.args = []) : resume ((x :: xs, y :: ys) :: fs) = resume ((xs, ys) :: fs) := by
  rw [resume_push h, h0, resume_pop]
mutual
theorem T.dif_self : (x : T) → T.dif x x = none
  | .node _ aas => by simp only [T.dif, T.args]; exact T.difs_self aas
theorem T.difs_self : (xs : List T) → T.difs xs xs = none
  | [] => by simp [T.difs]
  | x :: xs => by
    have h1 := T.dif_self x
    have h2 := T.difs_self xs
    simp [T.difs, h1, h2]
end
mutual
theorem T.eq_of_dif : (x y : T) → ¬ differ x y → T.dif x y = none → x = y
  | .node h aas, .node k bs, hd, h0 => by
    simp only [differ, T.head, T.args, not_or, Decidable.not_not] at hd
    simp only [T.dif, T.args] at h0
    rw [hd.1, T.eq_of_difs aas bs hd.2 h0]
theorem T.eq_of_difs : (xs ys : List T) → xs.length = ys.length → T.difs xs ys = none → xs = ys
  | [], ys, hl, _ => by simp at hl; rw [List.eq_nil_of_length_eq_zero hl.symm]
  | _ :: _, [], hl, _ => by simp at hl
  | x :: xs, y :: ys, hl, h0 => by
    rw [T.difs] at h0
    by_cases hd : x.head ≠ y.head ∨ x.args.length ≠ y.args.length
    · rw [if_pos hd] at h0; cases h0
    · rw [if_neg hd] at h0
      cases h1 : T.dif x y with
      | some s => rw [h1] at h0; cases h0
      | none =>
        rw [h1] at h0
        rw [T.eq_of_dif x y hd h1, T.eq_of_difs xs ys (by simpa using hl) h0]
end
theorem resume_none_iff (a b : T) : resume [([a], [b])] = none ↔ a = b := by
  constructor
  · intro h
    simp only [resume] at h
    cases h1 : T.difs [a] [b] with
    | some s => rw [h1] at h; cases h
    | none => have := T.eq_of_difs [a] [b] rfl h1; simpa using this
  · rintro rfl
    simp [resume, T.difs_self]
/-- A number that every step lowers. -/
def leftP : List (List T × List T) → Nat
  | [] => 0
  | p :: fs => 2 * T.sizes p.1 + 1 + leftP fs
theorem leftP_push {xs ys zs bs : List T} {j : Nat} {x : T} (hx : xs[j]? = some x) (fs : List (List T × List T)) : leftP ((x.args, zs) :: (xs.drop (j + 1), bs) :: fs) < leftP ((xs, ys) :: fs) := by
  have h1 := T.sizes_append (xs.take j) (xs.drop j)
  rw [List.take_append_drop, T.sizes_drop hx, T.size_eq] at h1
  simp only [leftP]; omega
/-! ### The stack of pairs in memory -/
def PFrs (n₁ : Nat) (W : World) : List (List T × List T) → List (Value × Value) → Prop
  | [], [] => True
  | p :: fs, v :: vs => (∃ a c, v.1 = .slice a p.1.length c ∧ IsArgs n₁ W p.1 a c) ∧ (∃ a c, v.2 = .slice a p.2.length c ∧ IsArgs n₁ W p.2 a c) ∧ p.1.length = p.2.length ∧ PFrs n₁ W fs vs
  | _, _ => False
theorem PFrs.length {n₁ : Nat} {W : World} : ∀ {fs : List (List T × List T)} {vs : List (Value × Value)}, PFrs n₁ W fs vs → fs.length = vs.length
  | [], [], _ => rfl
  | _ :: _, _ :: _, h => by simp [PFrs.length h.2.2.2]
  | [], _ :: _, h => h.elim
  | _ :: _, [], h => h.elim
theorem PFrs.below {n₁ : Nat} {W W' : World} (hb : Below n₁ W W') : ∀ {fs : List (List T × List T)} {vs : List (Value × Value)}, PFrs n₁ W fs vs → PFrs n₁ W' fs vs
  | [], [], _ => trivial
  | _ :: _, _ :: _, ⟨⟨a, c, h1, h2⟩, ⟨a', c', h3, h4⟩, h5, h6⟩ => ⟨⟨a, c, h1, h2.below hb⟩, ⟨a', c', h3, h4.below hb⟩, h5, PFrs.below hb h6⟩
  | [], _ :: _, h => h.elim
  | _ :: _, [], h => h.elim
/-- The cells of the row, the outermost pair first. -/
def prow : List (Value × Value) → List Value
  | [] => []
  | v :: vs => prow vs ++ [v.1, v.2]
theorem prow_length : ∀ vs : List (Value × Value), (prow vs).length = vs.length * 2
  | [] => rfl
  | v :: vs => by simp [prow, prow_length vs]; omega
theorem prow_fst (v : Value × Value) (vs : List (Value × Value)) : (prow (v :: vs))[vs.length * 2]? = some v.1 := by
  rw [prow, List.getElem?_append_right (by rw [prow_length]; exact Nat.le_refl _), prow_length]; simp
theorem prow_snd (v : Value × Value) (vs : List (Value × Value)) : (prow (v :: vs))[vs.length * 2 + 1]? = some v.2 := by
  rw [prow, List.getElem?_append_right (by rw [prow_length]; omega), prow_length]; simp
theorem prow_set (v : Value × Value) (vs : List (Value × Value)) (u1 u2 : Value) : ((prow (v :: vs)).set (vs.length * 2) u1).set (vs.length * 2 + 1) u2 = prow ((u1, u2) :: vs) := by
  rw [prow, List.set_append_right _ _ (by rw [prow_length]; exact Nat.le_refl _), List.set_append_right _ _ (by rw [prow_length]; omega), prow_length]
  simp [prow]
theorem drop_at {xs : List T} {j : Nat} {s : T} (h : xs[j]? = some s) : xs.drop j = s :: xs.drop (j + 1) := by
  obtain ⟨hi, e⟩ := List.getElem?_eq_some_iff.1 h
  rw [List.drop_eq_getElem_cons hi, e]
theorem resume_at_differ {xs ys : List T} {j : Nat} {s1 s2 : T} (h1 : xs[j]? = some s1) (h2 : ys[j]? = some s2) (hd : differ s1 s2) (fs : List (List T × List T)) : resume ((xs.drop j, ys.drop j) :: fs) = some ((xs.drop j, ys.drop j) :: fs) := by
  rw [drop_at h1, drop_at h2]; exact resume_differ hd
theorem resume_at_push {xs ys : List T} {j : Nat} {s1 s2 : T} (h1 : xs[j]? = some s1) (h2 : ys[j]? = some s2) (hd : ¬ differ s1 s2) (fs : List (List T × List T)) : resume ((xs.drop j, ys.drop j) :: fs) = resume ((s1.args, s2.args) :: (xs.drop (j + 1), ys.drop (j + 1)) :: fs) := by
  rw [drop_at h1, drop_at h2]; exact resume_push hd
theorem resume_at_leaf {xs ys : List T} {j : Nat} {s1 s2 : T} (h1 : xs[j]? = some s1) (h2 : ys[j]? = some s2) (hd : ¬ differ s1 s2) (h0 : s1.args.length = 0) (fs : List (List T × List T)) : resume ((xs.drop j, ys.drop j) :: fs) = resume ((xs.drop (j + 1), ys.drop (j + 1)) :: fs) := by
  rw [drop_at h1, drop_at h2]; exact resume_leaf hd (List.eq_nil_of_length_eq_zero h0)
theorem prow_store {w1 wx : World} {base : Nat} {e : TypeId} {g cap k : Nat} {v : Value × Value} {vs : List (Value × Value)} (hO : w1.ownsRow base e 2 (.slice (some ⟨g, 0, none⟩) (k + 1) cap) (k + 1) (prow (v :: vs))) (hk : k = vs.length) (hb : Below w1.heap.size w1 wx) (u1 u2 : Value) :
    (((wx.setCell ⟨g, k * 2, none⟩ u1).setCell ⟨g, k * 2 + 1, none⟩ u2).drew).ownsRow base e 2 (.slice (some ⟨g, 0, none⟩) (k + 1) cap) (k + 1) (prow ((u1, u2) :: vs)) ∧ Below base wx (((wx.setCell ⟨g, k * 2, none⟩ u1).setCell ⟨g, k * 2 + 1, none⟩ u2).drew) := by
  have hg := hO.lt g rfl
  have hO1 := ownsRow_block hO (hb.block g hg.2)
  have h2 := ((hO1.stored (k * 2) u1).1.stored (k * 2 + 1) u2).1
  subst hk
  rw [prow_set] at h2
  exact ⟨h2, (((Below.refl base wx).setCell (p := ⟨g, vs.length * 2, none⟩) hg.1 u1).setCell (p := ⟨g, vs.length * 2 + 1, none⟩) hg.1 u2).drew⟩
/-- The slice after its first j elements, aas the slice expression gives it. -/
theorem IsArgs.tail {n₁ : Nat} {W : World} {ts : List T} {b o c : Nat} (h : IsArgs n₁ W ts (some ⟨b, o, none⟩) c) {j : Nat} (hj : j ≤ ts.length) :
    IsArgs n₁ W (ts.drop j) (some ⟨b, if c = j then o else o + j * 2, none⟩) (c - j) := by
  obtain ⟨h1, h2, h3⟩ := h
  refine ⟨by rw [List.length_drop]; omega, by omega, ?_⟩
  by_cases h : c = j
  · left; rw [List.drop_eq_nil_iff]; omega
  · rcases h3 with rfl | ⟨b', o', e, h4, h5⟩
    · left; simp
    · cases e
      right
      refine ⟨b, _, rfl, h4, ?_⟩
      rw [if_neg h]
      exact h5.drop j hj
end Go.Proofs.Ytbdabdjpgmnejaa
/- The order of terms: plain lemmas; no program is named here. -/
namespace Go.Proofs.Ytbdabdjpgmnejaa
set_option linter.unusedVariables false
set_option linter.unusedSimpArgs false
mutual
theorem T.cmp_self : (x : T) → T.cmp x x = 0
  | .node h ts => by
    rw [T.cmp_eq]
    simp only [ne_eq, not_true_eq_false, if_false]
    exact T.cmps_self ts
theorem T.cmps_self : (xs : List T) → T.cmps xs xs = 0
  | [] => by simp [T.cmps]
  | x :: xs => by simp [T.cmps, T.cmp_self x, T.cmps_self xs]
end
mutual
theorem T.eq_of_cmp : (x y : T) → T.cmp x y = 0 → x = y
  | .node h ts, .node k us, h0 => by
    rw [T.cmp_eq] at h0
    split at h0
    · rename_i h1; rw [ord_zero] at h0; omega
    split at h0
    · rename_i h1; rw [ord_zero] at h0; exact absurd h0 h1
    split at h0
    · rename_i h1; rw [ord_zero] at h0; omega
    rename_i _ h1 h2
    simp only [T.head, T.args, ne_eq, Decidable.not_not] at h1 h2 h0
    rw [h1, T.eq_of_cmps ts us h2 h0]
theorem T.eq_of_cmps : (xs ys : List T) → xs.length = ys.length → T.cmps xs ys = 0 → xs = ys
  | [], ys, hl, _ => by simp at hl; rw [List.eq_nil_of_length_eq_zero hl.symm]
  | _ :: _, [], hl, _ => by simp at hl
  | x :: xs, y :: ys, hl, h0 => by
    rw [T.cmps] at h0
    split at h0
    · rename_i h1; exact absurd h0 h1
    · rename_i h1
      simp only [ne_eq, Decidable.not_not] at h1
      rw [T.eq_of_cmp x y h1, T.eq_of_cmps xs ys (by simpa using hl) h0]
end
theorem T.cmp_zero {x y : T} : T.cmp x y = 0 ↔ x = y := ⟨T.eq_of_cmp x y, fun h => by rw [h, T.cmp_self]⟩
/-! ### How Compare comes to the order, frame by frame -/
end Go.Proofs.Ytbdabdjpgmnejaa
