/- The document's answers: Size, order, Compare, Same of the reference package. -/
import Derived.Test.YtleohdddaadbeaaGreatLeaf
import Derived.Lib.QuietBelow
import Derived.BigQuiet
namespace Go.Proofs.YtleohdddaadbeaaGreat
set_option linter.unusedVariables false
set_option linter.unusedSimpArgs false
open Go.RowKit Go.Sort

theorem refSize_any : ∀ (N : Nat) (t : T), t.size ≤ N → t.size ≤ 1000000000000 → ∀ (n₀ : Nat) (a : Option Addr) (c : Nat) (w : World), n₀ ≤ w.heap.size → IsArgs n₀ w t.args a c →
    Calls Tryz.prog 64 #[tm t.head a t.args.length c] w fun e w' => e = .returned (.int .i64 (t.size : Nat)) ∧ Below w.heap.size w w' := by
  intro N
  induction N with
  | zero => intro t ht; have := T.size_pos t; omega
  | succ N ih =>
    intro t ht hbig n₀ a c w hn hA
    have IH := Lib.hid ih
    clear ih
    have hsz := T.size_eq t
    have HS := Lib.hid hsz
    clear hsz
    have hlc : t.args.length ≤ c ∧ c ≤ maxLen := ⟨hA.1, hA.2.1⟩
    unfold maxLen at hlc
    obtain ⟨hl1, hl2⟩ := hlc
    generalize hL : t.args.length = len at *
    have HL := Lib.hid hL
    clear hL
    have HA := Lib.hid hA
    clear hA
    go_enter Tryz.func64, Tryz.ntmps64
    go_wp2
    go_loopw [3, 4] (fun n i wr => ∃ k : Nat, k ≤ len ∧ i = .int .i64 k ∧ n = .int .i64 (1 + T.sizes (t.args.take k) : Nat) ∧ Below (w.heap.size + 1) (w.alloc (tmCells t.head a len c)) wr)
      (fun _ i _ => len - (intOf i).toNat)
    case atStart => exact ⟨0, Nat.zero_le _, rfl, by simp [T.sizes], Below.refl _ _⟩
    case round =>
      obtain ⟨k, hk, rfl, rfl, hB⟩ := hrel
      generalize hm' : 1 + T.sizes (t.args.take k) = m at *
      have hmb : m ≤ 1000000000000 := by
        have h3 := T.sizes_append (t.args.take k) (t.args.drop k)
        rw [List.take_append_drop] at h3
        have := HS.out
        omega
      have HM := Lib.hid hm'
      clear hm'
      have hbox : wr.cell? ⟨w.heap.size, 1, none⟩ = some (.slice a len c) := (hB.cell (p := ⟨w.heap.size, 1, none⟩) (by simp)).trans (by simp [go_sem])
      have HB := Lib.hid hB
      clear hB
      by_cases hlt : k < len
      · have hw : Below n₀ w wr := ((Below.refl n₀ w).alloc hn _).trans (HB.out.mono (by omega))
        obtain ⟨b, o, s, a', c', rfl, hbn, hs, hwf, hc1, hc2, hA'⟩ := (HA.out.below hw).elem (i := k) (by rw [HL.out]; exact hlt)
        have hs1 : wr.heap.size ≥ w.heap.size + 1 := by have := HB.out.size; simpa using this
        have hsN : s.size ≤ N := by have := T.size_lt_of_mem hs; have := HS.out; omega
        have hsb : s.size ≤ 1000000000000 := by have := T.size_lt_of_mem hs; have := HS.out; omega
        have HSS := Lib.hid hs
        have HA' := Lib.hid hA'
        clear hs hA' hw hwf
        go_wp2_with fail
        refine (IH.out s hsN hsb n₀ a' c' wr (by omega) HA'.out).mono ?_
        rintro e w2 ⟨rfl, hB2⟩
        generalize hr : s.size = r at *
        have HR := Lib.hid hr
        have HB2 := Lib.hid hB2
        clear hr hB2
        go_wp2
        go_roundw
        case rel =>
          refine ⟨k + 1, by omega, by go_num, ?_, HB.out.trans (HB2.out.mono (by omega))⟩
          have h1 := HM.out
          have h2 := HR.out
          have h3 := T.sizes_take HSS.out
          rw [show ((m : Int) + (r : Int)) = ((m + r : Nat) : Int) from by omega]
          exact congrArg (fun x : Nat => Value.int .i64 (x : Int)) (by omega)
        case measure => simp [intOf]; omega
      · go_wp2
        go_ret
        refine ⟨?_, (((Below.refl w.heap.size w).alloc (Nat.le_refl _) _).trans (HB.out.mono (by omega)))⟩
        have h1 := HM.out
        have h2 := HS.out
        rw [List.take_of_length_le (by have := HL.out; omega)] at h1
        exact congrArg (fun x : Nat => Ending.returned (.int .i64 (x : Int))) (by omega)

def ord (a b : Int) : Int := if a < b then -1 else if b < a then 1 else 0
theorem ord_zero {a b : Int} : ord a b = 0 ↔ a = b := by unfold ord; split <;> (try split) <;> omega
theorem ord_bd (a b : Int) : -1 ≤ ord a b ∧ ord a b ≤ 1 := by unfold ord; split <;> (try split) <;> omega

theorem order_any (a b : Int) (w : World) : Calls Tryz.prog 65 #[.int .i64 a, .int .i64 b] w fun e w' => e = .returned (.int .i64 (ord a b)) ∧ w' = w := by
  by_cases h1 : a < b
  · go_enter Tryz.func65, Tryz.ntmps65
    go_wp2
    go_ret
    exact ⟨by rw [ord, if_pos h1]; rfl, rfl⟩
  · by_cases h2 : b < a
    · go_enter Tryz.func65, Tryz.ntmps65
      go_wp2
      go_ret
      exact ⟨by rw [ord, if_neg (by omega), if_pos h2]; rfl, rfl⟩
    · go_enter Tryz.func65, Tryz.ntmps65
      go_wp2
      go_ret
      exact ⟨by rw [ord, if_neg (by omega), if_neg (by omega)]; rfl, rfl⟩

/-! ### Compare -/
mutual
def T.cmp : T → T → Int
  | .node h ts, t => if (T.node h ts).size ≠ t.size then ord (T.node h ts).size t.size else if h ≠ t.head then ord h t.head else if ts.length ≠ t.args.length then ord ts.length t.args.length else T.cmps ts t.args
def T.cmps : List T → List T → Int
  | [], _ => 0
  | _ :: _, [] => 0
  | x :: xs, y :: ys => if T.cmp x y ≠ 0 then T.cmp x y else T.cmps xs ys
end
theorem T.cmp_eq (x y : T) : T.cmp x y = if x.size ≠ y.size then ord x.size y.size else if x.head ≠ y.head then ord x.head y.head else if x.args.length ≠ y.args.length then ord x.args.length y.args.length else T.cmps x.args y.args := by
  cases x; cases y; rw [T.cmp]; rfl

theorem drop_at' {xs : List T} {j : Nat} {s : T} (h : xs[j]? = some s) : xs.drop j = s :: xs.drop (j + 1) := by
  obtain ⟨hi, e⟩ := List.getElem?_eq_some_iff.1 h
  rw [List.drop_eq_getElem_cons hi, e]
def RefCmpI (x y : T) (w2 : World) (i : Value) (wr : World) : Prop := ∃ k : Nat, k ≤ x.args.length ∧ i = .int .i64 k ∧ Below w2.heap.size w2 wr ∧ T.cmps (x.args.drop k) (y.args.drop k) = T.cmp x y

set_option maxRecDepth 100000 in
set_option maxHeartbeats 2000000 in
theorem refCompare_any : ∀ (N : Nat) (x y : T), x.size ≤ N → x.size ≤ 1000000000000 → y.size ≤ 1000000000000 → ∀ (n₀ : Nat) (a : Option Addr) (c : Nat) (a' : Option Addr) (c' : Nat) (w : World), n₀ ≤ w.heap.size → IsArgs n₀ w x.args a c → IsArgs n₀ w y.args a' c' →
    Calls Tryz.prog 46 #[tm x.head a x.args.length c, tm y.head a' y.args.length c'] w fun e w' => e = .returned (.int .i64 (T.cmp x y)) ∧ Below w.heap.size w w' := by
  intro N
  induction N with
  | zero => intro t _ ht; have := T.size_pos t; omega
  | succ N ih =>
    intro x y hx hxb hyb n₀ a c a' c' w hn hA hB
    have IH := Lib.hid ih
    clear ih
    have HA := Lib.hid (hA.mono hn)
    have HB := Lib.hid (hB.mono hn)
    clear hA hB hn n₀
    have hb2 : Below w.heap.size w ((w.alloc (tmCells x.head a x.args.length c)).alloc (tmCells y.head a' y.args.length c')) := ((Below.refl _ w).alloc (Nat.le_refl _) _).alloc (by simp) _
    have e1 : ((w.alloc (tmCells x.head a x.args.length c)).alloc (tmCells y.head a' y.args.length c')).cell? ⟨w.heap.size, 0, none⟩ = some (.int .i64 x.head) := by simp [go_sem]
    have e2 : ((w.alloc (tmCells x.head a x.args.length c)).alloc (tmCells y.head a' y.args.length c')).cell? ⟨w.heap.size, 1, none⟩ = some (.slice a x.args.length c) := by simp [go_sem]
    have e3 : ((w.alloc (tmCells x.head a x.args.length c)).alloc (tmCells y.head a' y.args.length c')).cell? ⟨w.heap.size + 1, 0, none⟩ = some (.int .i64 y.head) := by simp [go_sem]
    have e4 : ((w.alloc (tmCells x.head a x.args.length c)).alloc (tmCells y.head a' y.args.length c')).cell? ⟨w.heap.size + 1, 1, none⟩ = some (.slice a' y.args.length c') := by simp [go_sem]
    have hsz : ((w.alloc (tmCells x.head a x.args.length c)).alloc (tmCells y.head a' y.args.length c')).heap.size = w.heap.size + 2 := by simp
    have E := Lib.hid (And.intro hb2 (And.intro e1 (And.intro e2 (And.intro e3 (And.intro e4 hsz)))))
    clear hb2 e1 e2 e3 e4 hsz
    go_enter Tryz.func46, Tryz.ntmps46
    go_wp2
    generalize (w.alloc (tmCells x.head a x.args.length c)).alloc (tmCells y.head a' y.args.length c') = wB at E ⊢
    obtain ⟨hb2, e1, e2, e3, e4, hsz⟩ := E.out
    have HBB := Lib.hid hb2
    have HSZ := Lib.hid hsz
    have cX : ∀ W, Below wB.heap.size wB W → Calls Tryz.prog 64 #[tm x.head a x.args.length c] W fun e w' => e = .returned (.int .i64 (x.size : Nat)) ∧ Below W.heap.size W w' := fun W hW =>
      refSize_any x.size x (Nat.le_refl _) hxb w.heap.size a c W (Nat.le_trans HBB.out.size hW.size) (HA.out.below (HBB.out.trans (hW.mono HBB.out.size)))
    have cY : ∀ W, Below wB.heap.size wB W → Calls Tryz.prog 64 #[tm y.head a' y.args.length c'] W fun e w' => e = .returned (.int .i64 (y.size : Nat)) ∧ Below W.heap.size W w' := fun W hW =>
      refSize_any y.size y (Nat.le_refl _) hyb w.heap.size a' c' W (Nat.le_trans HBB.out.size hW.size) (HB.out.below (HBB.out.trans (hW.mono HBB.out.size)))
    have CX := Lib.hid cX
    have CY := Lib.hid cY
    clear cX cY hb2 hsz E
    have E1 := Lib.hid e1
    have E2 := Lib.hid e2
    have E3 := Lib.hid e3
    have E4 := Lib.hid e4
    have f1 := fun d os => cell_regrown e1 d os
    have f2 := fun d os => cell_regrown e2 d os
    have f3 := fun d os => cell_regrown e3 d os
    have f4 := fun d os => cell_regrown e4 d os
    refine wp_region_quiet_below (by kernel_rfl) (by kernel_rfl) ?_
    repeat (quiet_step (first | with_reducible exact Calls.regrown_of (CX.out _ (below_regrown _ _ _)) | with_reducible exact Calls.regrown_of (CY.out _ (below_regrown _ _ _))))
    refine wpQuiet_nil ?_
    intro _ hw'
    obtain ⟨⟨dq, osq⟩, hw''⟩ := hw'
    subst hw''
    have hq := below_regrown wB dq osq
    generalize grow (redrawn wB dq) osq = w2 at hq ⊢
    clear f1 f2 f3 f4 e1 e2 e3 e4
    have hq1 : w.heap.size + 2 ≤ w2.heap.size := by have := hq.size; have := HSZ.out; omega
    have e1 := (hq.cell (p := ⟨w.heap.size, 0, none⟩) (by have := HSZ.out; simp; omega)).trans E1.out
    have e2 := (hq.cell (p := ⟨w.heap.size, 1, none⟩) (by have := HSZ.out; simp; omega)).trans E2.out
    have e3 := (hq.cell (p := ⟨w.heap.size + 1, 0, none⟩) (by have := HSZ.out; simp; omega)).trans E3.out
    have e4 := (hq.cell (p := ⟨w.heap.size + 1, 1, none⟩) (by have := HSZ.out; simp; omega)).trans E4.out
    have HQ := Lib.hid hq
    have HW2 := Lib.hid (HBB.out.trans (hq.mono HBB.out.size))
    clear hq
    have hcmp := T.cmp_eq x y
    by_cases hs : x.size = y.size
    · rw [if_neg (by omega)] at hcmp
      have hs1 : ((x.size : Int) == (y.size : Int)) = true := by simp; omega
      have hs2 : ((x.size : Int) != (y.size : Int)) = false := by simp; omega
      have hs3 : (x.size == y.size) = true := by simp; omega
      have hs4 : (x.size != y.size) = false := by simp; omega
      clear hs
      simp only [hs1, hs2, hs3, hs4, Bool.not_true]
      by_cases hh : x.head = y.head
      · rw [if_neg (by simpa using hh)] at hcmp
        have hh1 : (x.head == y.head) = true := by simp; omega
        have hh2 : (x.head != y.head) = false := by simp; omega
        clear hh
        by_cases hl : x.args.length = y.args.length
        · rw [if_neg (by omega)] at hcmp
          have hl1 : ((x.args.length : Int) == (y.args.length : Int)) = true := by simp; omega
          have hl2 : ((x.args.length : Int) != (y.args.length : Int)) = false := by simp; omega
          have hl3 : (x.args.length == y.args.length) = true := by simp; omega
          have hl4 : (x.args.length != y.args.length) = false := by simp; omega
          have HL := Lib.hid hl
          have HC := Lib.hid hcmp
          clear hl hcmp
          have hlc : x.args.length ≤ c ∧ c ≤ maxLen := ⟨HA.out.1, HA.out.2.1⟩
          unfold maxLen at hlc
          obtain ⟨hlc1, hlc2⟩ := hlc
          go_wp2
          go_loopw [5] (fun i wr => RefCmpI x y w2 i wr) (fun i _ => x.args.length - (intOf i).toNat)
          case atStart => exact ⟨0, Nat.zero_le _, rfl, Below.refl _ _, by simpa using HC.out.symm⟩
          case round =>
            obtain ⟨k, hk, rfl, hbr, hcr⟩ := hrel
            clear e1 e2 e3 e4
            have e2 := (HQ.out.trans (hbr.mono HQ.out.size)).cell (p := ⟨w.heap.size, 1, none⟩) (by have := HSZ.out; simp; omega) |>.trans E2.out
            have e4 := (HQ.out.trans (hbr.mono HQ.out.size)).cell (p := ⟨w.heap.size + 1, 1, none⟩) (by have := HSZ.out; simp; omega) |>.trans E4.out
            have hsr : w2.heap.size ≤ wr.heap.size := hbr.size
            have HBR := Lib.hid hbr
            have HCR := Lib.hid hcr
            clear hbr hcr
            have hw : Below w.heap.size w wr := HW2.out.trans (HBR.out.mono (by omega))
            by_cases hlt : k < x.args.length
            · obtain ⟨b1, o1, s1, p1, q1, rfl, hbn1, hs1', hw1, hd1, hd2, hsA1⟩ := (HA.out.below hw).elem hlt
              obtain ⟨b2, o2, s2, p2, q2, rfl, hbn2, hs2', hw2, hd3, hd4, hsA2⟩ := (HB.out.below hw).elem (i := k) (by have := HL.out; omega)
              have hlt2 : k < y.args.length := by have := HL.out; omega
              have hlc3 : y.args.length ≤ c' := HB.out.1
              have z1 : s1.size ≤ x.size - 1 := by have := T.size_lt_of_mem hs1'; have := T.size_eq x; omega
              have z2 : s2.size ≤ y.size - 1 := by have := T.size_lt_of_mem hs2'; have := T.size_eq y; omega
              have cI : ∀ W, Below wr.heap.size wr W → Calls Tryz.prog 46 #[tm s1.head p1 s1.args.length q1, tm s2.head p2 s2.args.length q2] W fun e w' => e = .returned (.int .i64 (T.cmp s1 s2)) ∧ Below W.heap.size W w' := fun W hW =>
                IH.out s1 s2 (by omega) (by omega) (by omega) w.heap.size p1 q1 p2 q2 W (Nat.le_trans hw.size hW.size) (hsA1.below (hW.mono hw.size)) (hsA2.below (hW.mono hw.size))
              have CI := Lib.hid cI
              have HW := Lib.hid hw
              have HS1' := Lib.hid hs1'
              have HS2' := Lib.hid hs2'
              clear cI hw hs1' hs2' hsA1 hsA2 hw1 hw2 hbn1 hbn2 z1 z2
              have hi1 : (0 : Int) ≤ (k : Int) := by omega
              have hi2 : (k : Int) < (x.args.length : Int) := by omega
              have hi3 : (k : Int) < (y.args.length : Int) := by omega
              go_wp2
              have g2 := fun d os => cell_regrown e2 d os
              have g4 := fun d os => cell_regrown e4 d os
              have g5 := fun d os => cell_regrown hd1 d os
              have g6 := fun d os => cell_regrown hd2 d os
              have g7 := fun d os => cell_regrown hd3 d os
              have g8 := fun d os => cell_regrown hd4 d os
              refine wp_region_quiet_below (by kernel_rfl) (by kernel_rfl) ?_
              repeat (quiet_step (first | with_reducible exact Calls.regrown_of (CI.out _ (below_regrown _ _ _))))
              refine wpQuiet_nil ?_
              intro _ hw'
              obtain ⟨⟨dq, osq⟩, hw''⟩ := hw'
              subst hw''
              have hq3 := below_regrown wr dq osq
              generalize grow (redrawn wr dq) osq = w3 at hq3 ⊢
              have HQ3 := Lib.hid hq3
              clear hq3 g2 g4 g5 g6 g7 g8
              have hstep : T.cmps (x.args.drop k) (y.args.drop k) = if T.cmp s1 s2 ≠ 0 then T.cmp s1 s2 else T.cmps (x.args.drop (k + 1)) (y.args.drop (k + 1)) := by
                rw [drop_at' HS1'.out, drop_at' HS2'.out, T.cmps]
              have HST := Lib.hid (HCR.out.symm.trans hstep)
              clear hstep
              by_cases hz : T.cmp s1 s2 = 0
              · have hz1 : (T.cmp s1 s2 == 0) = true := by simp [hz]
                have hz2 : (T.cmp s1 s2 != 0) = false := by simp [hz]
                have HZ := Lib.hid hz
                clear hz
                go_wp2
                refine ⟨?_, ?_⟩
                · exact ⟨k + 1, by omega, by go_num, HBR.out.trans (HQ3.out.mono HBR.out.size), by rw [HST.out, if_neg (by simpa using HZ.out)]⟩
                · simp [intOf]; omega
              · have hz1 : (T.cmp s1 s2 == 0) = false := by simpa using hz
                have hz2 : (T.cmp s1 s2 != 0) = true := by simpa using hz
                go_wp2
                go_ret
                exact ⟨by rw [HST.out, if_pos hz]; rfl, HW.out.trans (HQ3.out.mono HW.out.size)⟩
            · have hkl : k = x.args.length := by omega
              go_wp2
              go_ret
              refine ⟨?_, hw⟩
              rw [← HCR.out, hkl, List.drop_length, T.cmps]; rfl
        · rw [if_pos (by omega)] at hcmp
          have hl1 : ((x.args.length : Int) == (y.args.length : Int)) = false := by simp; omega
          have hl2 : ((x.args.length : Int) != (y.args.length : Int)) = true := by simp; omega
          have hl3 : (x.args.length == y.args.length) = false := by simp; omega
          have hl4 : (x.args.length != y.args.length) = true := by simp; omega
          have HC := Lib.hid hcmp
          clear hcmp
          go_wp2_with (go_at_call 65; refine (order_any _ _ _).mono ?_; rintro e w' ⟨rfl, rfl⟩)
          go_ret
          exact ⟨by rw [HC.out]; rfl, HW2.out⟩
      · rw [if_pos (by simpa using hh)] at hcmp
        have hh1 : (x.head == y.head) = false := by simpa using hh
        have hh2 : (x.head != y.head) = true := by simpa using hh
        have HC := Lib.hid hcmp
        clear hcmp
        go_wp2_with (go_at_call 65; refine (order_any _ _ _).mono ?_; rintro e w' ⟨rfl, rfl⟩)
        go_ret
        exact ⟨by rw [HC.out]; rfl, HW2.out⟩
    · rw [if_pos (by omega)] at hcmp
      have hs1 : ((x.size : Int) == (y.size : Int)) = false := by simp; omega
      have hs2 : ((x.size : Int) != (y.size : Int)) = true := by simp; omega
      have hs3 : (x.size == y.size) = false := by simp; omega
      have hs4 : (x.size != y.size) = true := by simp; omega
      have HC := Lib.hid hcmp
      clear hcmp
      go_wp2
      have f1 := fun d os => cell_regrown e1 d os
      have f2 := fun d os => cell_regrown e2 d os
      have f3 := fun d os => cell_regrown e3 d os
      have f4 := fun d os => cell_regrown e4 d os
      refine wp_region_quiet_below (by kernel_rfl) (by kernel_rfl) ?_
      repeat (quiet_step (first | with_reducible exact Calls.regrown_of (CX.out _ (HQ.out.trans ((below_regrown _ _ _).mono HQ.out.size))) | with_reducible exact Calls.regrown_of (CY.out _ (HQ.out.trans ((below_regrown _ _ _).mono HQ.out.size))) | with_reducible exact Calls.regrown_of ((order_any _ _ _).mono fun _ _ h => ⟨h.1, h.2 ▸ Below.refl _ _⟩)))
      refine wpQuiet_nil ?_
      intro _ hw'
      obtain ⟨⟨dq, osq⟩, hw''⟩ := hw'
      subst hw''
      go_wp2
      go_ret
      exact ⟨by rw [HC.out]; rfl, HW2.out.trans ((below_regrown w2 dq osq).mono (by omega))⟩

theorem refSame_any (x y : T) (hx : x.size ≤ 1000000000000) (hy : y.size ≤ 1000000000000) (n₀ : Nat) (a : Option Addr) (c : Nat) (a' : Option Addr) (c' : Nat) (w : World) (hn : n₀ ≤ w.heap.size) (hA : IsArgs n₀ w x.args a c) (hB : IsArgs n₀ w y.args a' c') :
    Calls Tryz.prog 27 #[tm x.head a x.args.length c, tm y.head a' y.args.length c'] w fun e w' => e = .returned (.bool (decide (T.cmp x y = 0))) ∧ Below w.heap.size w w' := by
  have hC : ∀ W, Below w.heap.size w W → Calls Tryz.prog 46 #[tm x.head a x.args.length c, tm y.head a' y.args.length c'] W fun e w' => e = .returned (.int .i64 (T.cmp x y)) ∧ Below W.heap.size W w' := fun W hW =>
    refCompare_any x.size x y (Nat.le_refl _) hx hy n₀ a c a' c' W (Nat.le_trans hn hW.size) (hA.below (hW.mono hn)) (hB.below (hW.mono hn))
  have HC := Lib.hid hC
  clear hC hA hB
  go_enter Tryz.func27, Tryz.ntmps27
  go_wp2_with fail
  have hb : Below w.heap.size w ((w.alloc (tmCells x.head a x.args.length c)).alloc (tmCells y.head a' y.args.length c')) := ((Below.refl _ w).alloc (Nat.le_refl _) _).alloc (by simp) _
  refine (HC.out _ hb).mono ?_
  rintro e w2 ⟨rfl, hb2⟩
  have HB2 := Lib.hid (hb.trans (hb2.mono (by simp; omega)))
  clear hb hb2
  go_wp2
  go_ret
  refine ⟨?_, HB2.out⟩
  exact congrArg (fun q : Bool => Ending.returned (.bool q)) (by rw [Bool.eq_iff_iff]; simp)

end Go.Proofs.YtleohdddaadbeaaGreat
