/- QBi: joined of Cmp0, Back. -/
import Derived.Test.YtpncmdlbmnmahaaGreatQBh
import Derived.Test.YtpncmdlbmnmahaaGreatQBg
import Derived.Test.YtpncmdlbmnmahaaGreatSam0
import Derived.Test.YtpncmdlbmnmahaaGreatQBb
import Derived.RangeFuncNested
import Derived.RangeFuncBound
import Derived.RangeFuncCalls
import Derived.RangeFuncLeaves
import Derived.Shelf.Abstract
import Derived.Shelf.RegionOpen
import Derived.OwnWalkIn
import Derived.TacticsInMore
import Derived.LoopNIn
import Derived.LoopIn
/- Contracts of the small functions that Compare calls: cmp.Compare, cmp.Or, sizeOfAll, slices.Backward. -/
namespace Go.Proofs.YtpncmdlbmnmahaaGreat
set_option linter.unusedVariables false
set_option linter.unusedSimpArgs false
open Go.RowKit
theorem isNaN_any (a : Int) (w : World) : Calls Tryz.prog 127 #[.int .i64 a] w fun e w' => e = .returned (.bool false) ∧ w' = w := by
  go_enter Tryz.func127, Tryz.ntmps127
  go_wp2
  go_ret
  exact ⟨by simp, rfl⟩
theorem cmpCompare_any (a b : Int) (w : World) : Calls Tryz.prog 105 #[.int .i64 a, .int .i64 b] w fun e w' => e = .returned (.int .i64 (ord a b)) ∧ w' = w := by
  by_cases h1 : a < b
  · go_enter Tryz.func105, Tryz.ntmps105
    go_wp2_with (go_at_call 127; refine (isNaN_any _ _).mono ?_; rintro e w' ⟨rfl, rfl⟩)
    go_ret
    exact ⟨by rw [ord, if_pos h1]; rfl, rfl⟩
  · by_cases h2 : b < a
    · go_enter Tryz.func105, Tryz.ntmps105
      go_wp2_with (go_at_call 127; refine (isNaN_any _ _).mono ?_; rintro e w' ⟨rfl, rfl⟩)
      go_ret
      exact ⟨by rw [ord, if_neg (by omega), if_pos h2]; rfl, rfl⟩
    · go_enter Tryz.func105, Tryz.ntmps105
      go_wp2_with (go_at_call 127; refine (isNaN_any _ _).mono ?_; rintro e w' ⟨rfl, rfl⟩)
      go_ret
      exact ⟨by rw [ord, if_neg (by omega), if_neg (by omega)]; rfl, rfl⟩
/-- The first that is not 0, or 0. -/
def orL : List Int → Int
  | [] => 0
  | z :: zs => if z ≠ 0 then z else orL zs
def OrI (zs : List Int) (i : Value) : Prop := ∃ k : Nat, k ≤ zs.length ∧ i = .int .i64 k ∧ orL (zs.drop k) = orL zs
theorem or_any (g cap : Nat) (zs : List Int) (w : World) (hl : zs.length ≤ 100) (hc : ∀ (j : Nat) (z : Int), zs[j]? = some z → w.cell? ⟨g, j, none⟩ = some (.int .i64 z)) :
    Calls Tryz.prog 104 #[.slice (some ⟨g, 0, none⟩) zs.length cap] w fun e w' => e = .returned (.int .i64 (orL zs)) ∧ w' = w := by
  have HC := Lib.hid hc
  clear hc
  go_enter Tryz.func104, Tryz.ntmps104
  go_wp2
  go_loop [8] (fun i => OrI zs i) (fun i => zs.length - (intOf i).toNat)
  case atStart => exact ⟨0, Nat.zero_le _, rfl, rfl⟩
  case round =>
    obtain ⟨k, hk, rfl, ho⟩ := hrel
    have HO := Lib.hid ho
    clear ho
    by_cases hlt : k < zs.length
    · have h1 : w.cell? ⟨g, k, none⟩ = some (.int .i64 zs[k]) := HC.out k _ (List.getElem?_eq_getElem hlt)
      have hd : zs.drop k = zs[k] :: zs.drop (k + 1) := List.drop_eq_getElem_cons hlt
      have HO2 := Lib.hid (HO.out.symm.trans (by rw [hd, orL]))
      clear hd
      generalize zs[k] = z at *
      by_cases hz : z = 0
      · have hz1 : (z == 0) = true := by simp [hz]
        have hz2 : (z != 0) = false := by simp [hz]
        have HZ := Lib.hid hz
        clear hz
        go_wp2
        go_round
        case rel => exact ⟨k + 1, by omega, by go_num, by rw [HO2.out, if_neg (by simpa using HZ.out)]⟩
        case measure => simp [intOf]; omega
      · have hz1 : (z == 0) = false := by simpa using hz
        have hz2 : (z != 0) = true := by simpa using hz
        go_wp2
        go_ret
        exact ⟨by rw [HO2.out, if_pos hz]; rfl, rfl⟩
    · go_wp2
      go_ret
      refine ⟨?_, rfl⟩
      rw [← HO.out, List.drop_of_length_le (by omega)]; rfl
theorem or3_any (g cap : Nat) (a b c : Int) (w : World) (h0 : w.cell? ⟨g, 0, none⟩ = some (.int .i64 a)) (h1 : w.cell? ⟨g, 1, none⟩ = some (.int .i64 b)) (h2 : w.cell? ⟨g, 2, none⟩ = some (.int .i64 c)) :
    Calls Tryz.prog 104 #[.slice (some ⟨g, 0, none⟩) 3 cap] w fun e w' => e = .returned (.int .i64 (orL [a, b, c])) ∧ w' = w :=
  or_any g cap [a, b, c] w (by simp) (fun j z hz => by
    match j, hz with
    | 0, hz => simp at hz; subst hz; exact h0
    | 1, hz => simp at hz; subst hz; exact h1
    | 2, hz => simp at hz; subst hz; exact h2
    | j + 3, hz => simp at hz)
theorem or2_any (g cap : Nat) (a b : Int) (w : World) (h0 : w.cell? ⟨g, 0, none⟩ = some (.int .i64 a)) (h1 : w.cell? ⟨g, 1, none⟩ = some (.int .i64 b)) :
    Calls Tryz.prog 104 #[.slice (some ⟨g, 0, none⟩) 2 cap] w fun e w' => e = .returned (.int .i64 (orL [a, b])) ∧ w' = w :=
  or_any g cap [a, b] w (by simp) (fun j z hz => by
    match j, hz with
    | 0, hz => simp at hz; subst hz; exact h0
    | 1, hz => simp at hz; subst hz; exact h1
    | j + 2, hz => simp at hz)
def SumI (ts : List T) (w : World) (n i : Value) (wr : World) : Prop := ∃ k : Nat, k ≤ ts.length ∧ i = .int .i64 k ∧ n = .int .i64 (T.sizes (ts.take k) : Nat) ∧ Below w.heap.size w wr
theorem sizeOfAll_any (ts : List T) (hts : T.sizes ts ≤ 1000000000000) (n₀ : Nat) (a : Option Addr) (c : Nat) (w : World) (hn : n₀ ≤ w.heap.size) (hA : IsArgs n₀ w ts a c) :
    Calls Tryz.prog 107 #[.slice a ts.length c] w fun e w' => e = .returned (.int .i64 (T.sizes ts : Nat)) ∧ Below w.heap.size w w' := by
  have hlc : ts.length ≤ c ∧ c ≤ maxLen := ⟨hA.1, hA.2.1⟩
  unfold maxLen at hlc
  obtain ⟨hl1, hl2⟩ := hlc
  have HA := Lib.hid (hA.mono hn)
  clear hA hn n₀
  go_enter Tryz.func107, Tryz.ntmps107
  go_wp2
  go_loopw [3, 8] (fun n i wr => SumI ts w n i wr) (fun _ i _ => ts.length - (intOf i).toNat)
  case atStart => exact ⟨0, Nat.zero_le _, rfl, by simp [T.sizes], Below.refl _ _⟩
  case round =>
    obtain ⟨k, hk, rfl, rfl, hB⟩ := hrel
    have hsp := T.sizes_append (ts.take k) (ts.drop k)
    rw [List.take_append_drop] at hsp
    generalize hm' : T.sizes (ts.take k) = m at *
    have hmb : m ≤ 1000000000000 := by omega
    have HM := Lib.hid hm'
    have HB := Lib.hid hB
    clear hm' hB hsp
    by_cases hlt : k < ts.length
    · obtain ⟨b, o, s, a', c', rfl, hbn, hs, hwf, hc1, hc2, hA'⟩ := (HA.out.below HB.out).elem hlt
      have hsb : s.size ≤ 1000000000000 := by have := T.size_lt_of_mem hs; omega
      have HSS := Lib.hid hs
      have HA' := Lib.hid hA'
      have HW := Lib.hid hwf
      have hsz : w.heap.size ≤ wr.heap.size := HB.out.size
      clear hs hA' hwf
      go_wp2_with fail
      refine (size_any s hsb w.heap.size a' c' _ (by simp; omega) HW.out (HA'.out.below ((Below.refl _ _).alloc hsz _))).mono ?_
      rintro e w2 ⟨rfl, hB2⟩
      generalize hr : s.size = r at *
      have HR := Lib.hid hr
      have HB2 := Lib.hid hB2
      clear hr hB2
      go_wp2
      go_roundw
      case rel =>
        refine ⟨k + 1, by omega, by go_num, ?_, HB.out.trans (((Below.refl _ wr).alloc hsz _).trans (HB2.out.mono (by simp; omega)))⟩
        have h1 := HM.out
        have h2 := HR.out
        have h3 := T.sizes_take HSS.out
        rw [show ((m : Int) + (r : Int)) = ((m + r : Nat) : Int) from by omega]
        exact congrArg (fun x : Nat => Value.int .i64 (x : Int)) (by omega)
      case measure => simp [intOf]; omega
    · go_wp2
      go_ret
      refine ⟨?_, HB.out⟩
      have h1 := HM.out
      rw [List.take_of_length_le (by omega)] at h1
      exact congrArg (fun x : Nat => Ending.returned (.int .i64 (x : Int))) (by omega)
theorem backward_any (a : Option Addr) (k c : Nat) (w : World) :
    Calls Tryz.prog 106 #[.slice a k c] w fun e w' => e = .returned (.func (.func 128) #[] #[.pointer (some ⟨w.heap.size, 0, none⟩)]) ∧ w' = w.alloc (.cells #[.slice a k c] 119) := by
  go_enter Tryz.func106, Tryz.ntmps106
  go_wp2
  go_ret
  exact ⟨rfl, rfl⟩
end Go.Proofs.YtpncmdlbmnmahaaGreat

/- The iterator of slices.Backward over a slice of pairs: its contract. -/
namespace Go.Proofs.YtpncmdlbmnmahaaGreat
set_option linter.unusedVariables false
set_option linter.unusedSimpArgs false
open Go.RowKit Go.Shelf
attribute [local go_sem] Oper.semAt_some
def backMay (vs : List (Value × Value)) (pre : List (Value × Value)) (x : Value × Value) (as' : Array Value) (_W : World) : Prop :=
  pre ++ [x] <+: vs ∧ as' = #[.int .i64 ((vs.length : Int) - 1 - pre.length), .agg #[x.1, x.2]]
def backInv (Bs g cap : Nat) (vs : List (Value × Value)) (W : World) : Prop :=
  W.cell? ⟨Bs, 0, none⟩ = some (.slice (some ⟨g, 0, none⟩) vs.length cap) ∧ ∀ j, j < vs.length * 2 → W.cell? ⟨g, j, none⟩ = (prow vs)[j]?
theorem prow_at : ∀ (vs : List (Value × Value)) (k : Nat) (x : Value × Value), vs[k]? = some x → (prow vs)[(vs.length - 1 - k) * 2]? = some x.1 ∧ (prow vs)[(vs.length - 1 - k) * 2 + 1]? = some x.2
  | [], _, _, h => by simp at h
  | v :: vs, 0, x, h => by
    simp at h; subst h
    simpa using And.intro (prow_fst v vs) (prow_snd v vs)
  | v :: vs, k + 1, x, h => by
    have h' : vs[k]? = some x := by simpa using h
    obtain ⟨h1, h2⟩ := prow_at vs k x h'
    have hk : k < vs.length := (List.getElem?_eq_some_iff.1 h').1
    rw [show (v :: vs).length - 1 - (k + 1) = vs.length - 1 - k from by simp; omega, prow]
    rw [List.getElem?_append_left (by rw [prow_length]; omega), List.getElem?_append_left (by rw [prow_length]; omega)]
    exact ⟨h1, h2⟩
def backPost (vs : List (Value × Value)) (J Jx : List (Value × Value) → World → Prop) (e : Ending) (W' : World) : Prop :=
  (∃ v, e = .returned v) ∧ ((∃ xs, xs = vs ∧ J xs W') ∨ (∃ pre, pre <+: vs ∧ Jx pre W'))
def BackI (vs : List (Value × Value)) (J : List (Value × Value) → World → Prop) (i : Value) (wr : World) : Prop := ∃ k : Nat, k ≤ vs.length ∧ i = .int .i64 ((vs.length : Int) - 1 - k) ∧ J (vs.take k) wr
set_option maxRecDepth 100000 in
set_option maxHeartbeats 2000000 in
theorem back1_in (F : Fence) (n : Nat) (hF : F.fn 128) (hro : F.round = none) (hn : 1 ≤ n) (l Bs n₀ g cap : Nat) (vs : List (Value × Value)) (hvs : vs.length ≤ 9223372036854775807) (J Jx : List (Value × Value) → World → Prop) (W : World)
    (hinv : ∀ pre W1, J pre W1 → backInv Bs g cap vs W1) (hJs : AbidesBelow W.heap.size J)
    (hY : ∀ pre x as' W1, J pre W1 → W.heap.size ≤ W1.heap.size → backMay vs pre x as' W1 → YieldAt F (n - 1) Tryz.prog l as' W1 fun e W' =>
      (e = .returned (.bool true) ∧ J (pre ++ [x]) W' ∧ Kept n₀ W.heap.size W1 W') ∨ (e = .returned (.bool false) ∧ Jx (pre ++ [x]) W'))
    (h0 : J [] W) :
    CallsIn F n Tryz.prog 128 #[.func (.yield l) #[] #[], .pointer (some ⟨Bs, 0, none⟩)] W (backPost vs J Jx) := by
  have hi0 := (hinv _ _ h0).1
  have HY := Lib.hid hY
  have HI := Lib.hid hinv
  clear hY hinv hJs
  refine callsIn_of_wp Tryz.func128 rfl hF ?_ hro
  simp only [Tryz.ntmps128, List.size_toArray, List.length_cons, List.length_nil, Nat.reduceAdd, Nat.reduceSub, Array.replicate_succ, Array.replicate_zero, List.push_toArray, List.append_toArray, List.nil_append, List.cons_append]
  gi_wp2
  gi_loopw [3] (fun i wr => BackI vs J i wr ∧ W.heap.size ≤ wr.heap.size) (fun i _ => ((intOf i) + 1).toNat)
  case atStart => exact ⟨⟨0, Nat.zero_le _, by simp, by simpa using h0⟩, Nat.le_refl _⟩
  case round =>
    obtain ⟨⟨k, hk, rfl, hj⟩, hsz⟩ := hrel
    have hv := HI.out _ _ hj
    have HJP := Lib.hid hj
    clear hj
    by_cases hlt : k < vs.length
    · have hx := List.getElem?_eq_getElem hlt
      obtain ⟨p1, p2⟩ := prow_at vs k _ hx
      have c0 := hv.1
      have c1 : wr.cell? ⟨g, (vs.length - 1 - k) * 2, none⟩ = some vs[k].1 := (hv.2 _ (by omega)).trans p1
      have c2 : wr.cell? ⟨g, (vs.length - 1 - k) * 2 + 1, none⟩ = some vs[k].2 := (hv.2 _ (by omega)).trans p2
      have hpre : vs.take k ++ [vs[k]] = vs.take (k + 1) := by rw [List.take_succ_eq_append_getElem hlt]
      have hmay : backMay vs (vs.take k) vs[k] #[.int .i64 ((vs.length : Int) - 1 - k), .agg #[vs[k].1, vs[k].2]] wr := ⟨by rw [hpre]; exact List.take_prefix _ _, by simp; omega⟩
      obtain ⟨fn, tmps, assign, body, hy, hR⟩ := HY.out _ _ _ wr HJP.out hsz hmay
      rw [hpre] at hR
      clear hmay hpre p1 p2 hx hv
      obtain ⟨q, hq⟩ : ∃ q : Nat, q = vs.length - 1 - k := ⟨_, rfl⟩
      have hq' : ((vs.length : Int) - 1 - k) = (q : Int) := by omega
      rw [← hq] at c1 c2
      rw [hq'] at hy ⊢
      have HQ := Lib.hid hq
      have hql : q < vs.length := by omega
      generalize vs[k].1 = v1 at *
      generalize vs[k].2 = v2 at *
      clear hq hq'
      gi_wp2
      refine hR.mono ?_
      rintro e W3 (⟨rfl, hJ3, hk3⟩ | ⟨rfl, hJx3⟩)
      · have hs3 : wr.heap.size ≤ W3.heap.size := hk3.1.size
        have HJ3 := Lib.hid hJ3
        clear hR hy hJ3 hk3
        gi_wp2
        refine ⟨⟨⟨k + 1, by omega, ?_, HJ3.out⟩, by omega⟩, ?_⟩
        · have := HQ.out
          exact congrArg (Value.int .i64) (by omega)
        · simp [intOf]
      · gi_wp2
        refine bodyPost_ret (results_none rfl _ _ _) rfl ?_
        exact ⟨⟨_, rfl⟩, .inr ⟨_, List.take_prefix _ _, hJx3⟩⟩
    · have hkl : k = vs.length := by omega
      have hneg : ¬ (0 : Int) ≤ (vs.length : Int) - 1 - (k : Int) := by omega
      gi_wp2
      go_end0
      refine ⟨⟨_, rfl⟩, .inl ⟨_, rfl, ?_⟩⟩
      have h := HJP.out
      rw [hkl, List.take_length] at h
      exact h
theorem back_seq (F : Fence) (n : Nat) (hF : F.fn 128) (hro : F.round = none) (hn : 1 ≤ n) (Bs n₀ g cap : Nat) (vs : List (Value × Value)) (hvs : vs.length ≤ 9223372036854775807) (w : World) :
    SeqV F n Tryz.prog 128 #[.pointer (some ⟨Bs, 0, none⟩)] n₀ (backInv Bs g cap vs) (backMay vs) (fun xs => xs = vs) (fun pre => pre <+: vs) w := fun l J Jx W _ hJ _ hinv hY h0 =>
  back1_in F n hF hro hn l Bs n₀ g cap vs hvs J Jx W hinv hJ hY h0
end Go.Proofs.YtpncmdlbmnmahaaGreat
