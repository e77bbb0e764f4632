/- Contracts of the small functions that Compare calls: cmp.Compare, cmp.Or, sizeOfAll, slices.Backward. -/
import Derived.Test.YtgocfiahlbgjjaaRef
import Derived.Test.YtgocfiahlbgjjaaSame
namespace Go.Proofs.Ytgocfiahlbgjjaa
set_option linter.unusedVariables false
set_option linter.unusedSimpArgs false
open Go.RowKit

theorem isNaN_any (a : Int) (w : World) : Calls Try.prog 58 #[.int .i64 a] w fun e w' => e = .returned (.bool false) ∧ w' = w := by
  go_enter Try.func58, Try.ntmps58
  go_wp2
  go_ret
  exact ⟨by simp, rfl⟩

theorem cmpCompare_any (a b : Int) (w : World) : Calls Try.prog 44 #[.int .i64 a, .int .i64 b] w fun e w' => e = .returned (.int .i64 (ord a b)) ∧ w' = w := by
  by_cases h1 : a < b
  · go_enter Try.func44, Try.ntmps44
    go_wp2_with (go_at_call 58; refine (isNaN_any _ _).mono ?_; rintro e w' ⟨rfl, rfl⟩)
    go_ret
    exact ⟨by rw [ord, if_pos h1]; rfl, rfl⟩
  · by_cases h2 : b < a
    · go_enter Try.func44, Try.ntmps44
      go_wp2_with (go_at_call 58; refine (isNaN_any _ _).mono ?_; rintro e w' ⟨rfl, rfl⟩)
      go_ret
      exact ⟨by rw [ord, if_neg (by omega), if_pos h2]; rfl, rfl⟩
    · go_enter Try.func44, Try.ntmps44
      go_wp2_with (go_at_call 58; refine (isNaN_any _ _).mono ?_; rintro e w' ⟨rfl, rfl⟩)
      go_ret
      exact ⟨by rw [ord, if_neg (by omega), if_neg (by omega)]; rfl, rfl⟩

/-- The first that is not 0, or 0. -/
def orL : List Int → Int
  | [] => 0
  | z :: zs => if z ≠ 0 then z else orL zs

def OrI (zs : List Int) (i : Value) : Prop := ∃ k : Nat, k ≤ zs.length ∧ i = .int .i64 k ∧ orL (zs.drop k) = orL zs

theorem or_any (g cap : Nat) (zs : List Int) (w : World) (hl : zs.length ≤ 100) (hc : ∀ (j : Nat) (z : Int), zs[j]? = some z → w.cell? ⟨g, j, none⟩ = some (.int .i64 z)) :
    Calls Try.prog 43 #[.slice (some ⟨g, 0, none⟩) zs.length cap] w fun e w' => e = .returned (.int .i64 (orL zs)) ∧ w' = w := by
  have HC := Lib.hid hc
  clear hc
  go_enter Try.func43, Try.ntmps43
  go_wp2
  go_loop [8] (fun i => OrI zs i) (fun i => zs.length - (intOf i).toNat)
  case atStart => exact ⟨0, Nat.zero_le _, rfl, rfl⟩
  case round =>
    obtain ⟨k, hk, rfl, ho⟩ := hrel
    have HO := Lib.hid ho
    clear ho
    by_cases hlt : k < zs.length
    · have h1 : w.cell? ⟨g, k, none⟩ = some (.int .i64 zs[k]) := HC.out k _ (List.getElem?_eq_getElem hlt)
      have hd : zs.drop k = zs[k] :: zs.drop (k + 1) := List.drop_eq_getElem_cons hlt
      have HO2 := Lib.hid (HO.out.symm.trans (by rw [hd, orL]))
      clear hd
      generalize zs[k] = z at *
      by_cases hz : z = 0
      · have hz1 : (z == 0) = true := by simp [hz]
        have hz2 : (z != 0) = false := by simp [hz]
        have HZ := Lib.hid hz
        clear hz
        go_wp2
        go_round
        case rel => exact ⟨k + 1, by omega, by go_num, by rw [HO2.out, if_neg (by simpa using HZ.out)]⟩
        case measure => simp [intOf]; omega
      · have hz1 : (z == 0) = false := by simpa using hz
        have hz2 : (z != 0) = true := by simpa using hz
        go_wp2
        go_ret
        exact ⟨by rw [HO2.out, if_pos hz]; rfl, rfl⟩
    · go_wp2
      go_ret
      refine ⟨?_, rfl⟩
      rw [← HO.out, List.drop_of_length_le (by omega)]; rfl

theorem or3_any (g cap : Nat) (a b c : Int) (w : World) (h0 : w.cell? ⟨g, 0, none⟩ = some (.int .i64 a)) (h1 : w.cell? ⟨g, 1, none⟩ = some (.int .i64 b)) (h2 : w.cell? ⟨g, 2, none⟩ = some (.int .i64 c)) :
    Calls Try.prog 43 #[.slice (some ⟨g, 0, none⟩) 3 cap] w fun e w' => e = .returned (.int .i64 (orL [a, b, c])) ∧ w' = w :=
  or_any g cap [a, b, c] w (by simp) (fun j z hz => by
    match j, hz with
    | 0, hz => simp at hz; subst hz; exact h0
    | 1, hz => simp at hz; subst hz; exact h1
    | 2, hz => simp at hz; subst hz; exact h2
    | j + 3, hz => simp at hz)
theorem or2_any (g cap : Nat) (a b : Int) (w : World) (h0 : w.cell? ⟨g, 0, none⟩ = some (.int .i64 a)) (h1 : w.cell? ⟨g, 1, none⟩ = some (.int .i64 b)) :
    Calls Try.prog 43 #[.slice (some ⟨g, 0, none⟩) 2 cap] w fun e w' => e = .returned (.int .i64 (orL [a, b])) ∧ w' = w :=
  or_any g cap [a, b] w (by simp) (fun j z hz => by
    match j, hz with
    | 0, hz => simp at hz; subst hz; exact h0
    | 1, hz => simp at hz; subst hz; exact h1
    | j + 2, hz => simp at hz)

/-- The elements' heads are ints within their range. -/
def wfs (ts : List T) : Prop := ∀ t ∈ ts, (Lit.int .i64 t.head).wf = true
theorem IsArgs.wfs {n₀ : Nat} {w : World} {ts : List T} {a : Option Addr} {c : Nat} (h : IsArgs n₀ w ts a c) : wfs ts := by
  intro t ht
  obtain ⟨i, hi⟩ := List.getElem?_of_mem ht
  obtain ⟨b, o, s, a', c', _, _, hs, hw, _⟩ := h.elem (List.getElem?_eq_some_iff.1 hi).1
  rw [hi] at hs; cases hs; exact hw

def SumI (ts : List T) (w : World) (n i : Value) (wr : World) : Prop := ∃ k : Nat, k ≤ ts.length ∧ i = .int .i64 k ∧ n = .int .i64 (T.sizes (ts.take k) : Nat) ∧ Below w.heap.size w wr

theorem sizeOfAll_any (ts : List T) (hts : T.sizes ts ≤ 1000000) (n₀ : Nat) (a : Option Addr) (c : Nat) (w : World) (hn : n₀ ≤ w.heap.size) (hA : IsArgs n₀ w ts a c) :
    Calls Try.prog 46 #[.slice a ts.length c] w fun e w' => e = .returned (.int .i64 (T.sizes ts : Nat)) ∧ Below w.heap.size w w' := by
  have hlc : ts.length ≤ c ∧ c ≤ maxLen := ⟨hA.1, hA.2.1⟩
  unfold maxLen at hlc
  obtain ⟨hl1, hl2⟩ := hlc
  have HA := Lib.hid (hA.mono hn)
  clear hA hn n₀
  go_enter Try.func46, Try.ntmps46
  go_wp2
  go_loopw [3, 8] (fun n i wr => SumI ts w n i wr) (fun _ i _ => ts.length - (intOf i).toNat)
  case atStart => exact ⟨0, Nat.zero_le _, rfl, by simp [T.sizes], Below.refl _ _⟩
  case round =>
    obtain ⟨k, hk, rfl, rfl, hB⟩ := hrel
    have hsp := T.sizes_append (ts.take k) (ts.drop k)
    rw [List.take_append_drop] at hsp
    generalize hm' : T.sizes (ts.take k) = m at *
    have hmb : m ≤ 1000000 := by omega
    have HM := Lib.hid hm'
    have HB := Lib.hid hB
    clear hm' hB hsp
    by_cases hlt : k < ts.length
    · obtain ⟨b, o, s, a', c', rfl, hbn, hs, hwf, hc1, hc2, hA'⟩ := (HA.out.below HB.out).elem hlt
      have hsb : s.size ≤ 1000000 := by have := T.size_lt_of_mem hs; omega
      have HSS := Lib.hid hs
      have HA' := Lib.hid hA'
      have HW := Lib.hid hwf
      have hsz : w.heap.size ≤ wr.heap.size := HB.out.size
      clear hs hA' hwf
      go_wp2_with fail
      refine (size_any s hsb w.heap.size a' c' _ (by simp; omega) HW.out (HA'.out.below ((Below.refl _ _).alloc hsz _))).mono ?_
      rintro e w2 ⟨rfl, hB2⟩
      generalize hr : s.size = r at *
      have HR := Lib.hid hr
      have HB2 := Lib.hid hB2
      clear hr hB2
      go_wp2
      go_roundw
      case rel =>
        refine ⟨k + 1, by omega, by go_num, ?_, HB.out.trans (((Below.refl _ wr).alloc hsz _).trans (HB2.out.mono (by simp; omega)))⟩
        have h1 := HM.out
        have h2 := HR.out
        have h3 := T.sizes_take HSS.out
        rw [show ((m : Int) + (r : Int)) = ((m + r : Nat) : Int) from by omega]
        exact congrArg (fun x : Nat => Value.int .i64 (x : Int)) (by omega)
      case measure => simp [intOf]; omega
    · go_wp2
      go_ret
      refine ⟨?_, HB.out⟩
      have h1 := HM.out
      rw [List.take_of_length_le (by omega)] at h1
      exact congrArg (fun x : Nat => Ending.returned (.int .i64 (x : Int))) (by omega)

theorem backward_any (a : Option Addr) (k c : Nat) (w : World) :
    Calls Try.prog 45 #[.slice a k c] w fun e w' => e = .returned (.func (.func 59) #[] #[.pointer (some ⟨w.heap.size, 0, none⟩)]) ∧ w' = w.alloc (.cells #[.slice a k c] 52) := by
  go_enter Try.func45, Try.ntmps45
  go_wp2
  go_ret
  exact ⟨rfl, rfl⟩

end Go.Proofs.Ytgocfiahlbgjjaa
