/- The iterator of slices.Backward over a slice of pairs: its contract. -/
import Derived.RangeFuncNested
import Derived.RangeFuncBound
import Derived.RangeFuncCalls
import Derived.RangeFuncLeaves
import Derived.Shelf.Abstract
import Derived.Shelf.RegionOpen
import Derived.OwnWalkIn
import Derived.TacticsInMore
import Derived.LoopNIn
import Derived.LoopIn
import Derived.Test.YtgocfiahlbgjjaaLeaf
import Derived.Test.YtgocfiahlbgjjaaDif
namespace Go.Proofs.Ytgocfiahlbgjjaa
set_option linter.unusedVariables false
set_option linter.unusedSimpArgs false
open Go.RowKit Go.Shelf
attribute [local go_sem] Oper.semAt_some

def backMay (vs : List (Value × Value)) (pre : List (Value × Value)) (x : Value × Value) (as' : Array Value) (_W : World) : Prop :=
  pre ++ [x] <+: vs ∧ as' = #[.int .i64 ((vs.length : Int) - 1 - pre.length), .agg #[x.1, x.2]]
def backInv (Bs g cap : Nat) (vs : List (Value × Value)) (W : World) : Prop :=
  W.cell? ⟨Bs, 0, none⟩ = some (.slice (some ⟨g, 0, none⟩) vs.length cap) ∧ ∀ j, j < vs.length * 2 → W.cell? ⟨g, j, none⟩ = (prow vs)[j]?

theorem prow_at : ∀ (vs : List (Value × Value)) (k : Nat) (x : Value × Value), vs[k]? = some x → (prow vs)[(vs.length - 1 - k) * 2]? = some x.1 ∧ (prow vs)[(vs.length - 1 - k) * 2 + 1]? = some x.2
  | [], _, _, h => by simp at h
  | v :: vs, 0, x, h => by
    simp at h; subst h
    simpa using And.intro (prow_fst v vs) (prow_snd v vs)
  | v :: vs, k + 1, x, h => by
    have h' : vs[k]? = some x := by simpa using h
    obtain ⟨h1, h2⟩ := prow_at vs k x h'
    have hk : k < vs.length := (List.getElem?_eq_some_iff.1 h').1
    rw [show (v :: vs).length - 1 - (k + 1) = vs.length - 1 - k from by simp; omega, prow]
    rw [List.getElem?_append_left (by rw [prow_length]; omega), List.getElem?_append_left (by rw [prow_length]; omega)]
    exact ⟨h1, h2⟩

def backPost (vs : List (Value × Value)) (J Jx : List (Value × Value) → World → Prop) (e : Ending) (W' : World) : Prop :=
  (∃ v, e = .returned v) ∧ ((∃ xs, xs = vs ∧ J xs W') ∨ (∃ pre, pre <+: vs ∧ Jx pre W'))
def BackI (vs : List (Value × Value)) (J : List (Value × Value) → World → Prop) (i : Value) (wr : World) : Prop := ∃ k : Nat, k ≤ vs.length ∧ i = .int .i64 ((vs.length : Int) - 1 - k) ∧ J (vs.take k) wr

set_option maxRecDepth 100000 in
set_option maxHeartbeats 2000000 in
theorem back1_in (F : Fence) (n : Nat) (hF : F.fn 59) (hro : F.round = none) (hn : 1 ≤ n) (l Bs n₀ g cap : Nat) (vs : List (Value × Value)) (hvs : vs.length ≤ 9223372036854775807) (J Jx : List (Value × Value) → World → Prop) (W : World)
    (hinv : ∀ pre W1, J pre W1 → backInv Bs g cap vs W1) (hJs : AbidesBelow W.heap.size J)
    (hY : ∀ pre x as' W1, J pre W1 → W.heap.size ≤ W1.heap.size → backMay vs pre x as' W1 → YieldAt F (n - 1) Try.prog l as' W1 fun e W' =>
      (e = .returned (.bool true) ∧ J (pre ++ [x]) W' ∧ Kept n₀ W.heap.size W1 W') ∨ (e = .returned (.bool false) ∧ Jx (pre ++ [x]) W'))
    (h0 : J [] W) :
    CallsIn F n Try.prog 59 #[.func (.yield l) #[] #[], .pointer (some ⟨Bs, 0, none⟩)] W (backPost vs J Jx) := by
  have hi0 := (hinv _ _ h0).1
  have HY := Lib.hid hY
  have HI := Lib.hid hinv
  clear hY hinv hJs
  refine callsIn_of_wp Try.func59 rfl hF ?_ hro
  simp only [Try.ntmps59, List.size_toArray, List.length_cons, List.length_nil, Nat.reduceAdd, Nat.reduceSub, Array.replicate_succ, Array.replicate_zero, List.push_toArray, List.append_toArray, List.nil_append, List.cons_append]
  gi_wp2
  gi_loopw [3] (fun i wr => BackI vs J i wr ∧ W.heap.size ≤ wr.heap.size) (fun i _ => ((intOf i) + 1).toNat)
  case atStart => exact ⟨⟨0, Nat.zero_le _, by simp, by simpa using h0⟩, Nat.le_refl _⟩
  case round =>
    obtain ⟨⟨k, hk, rfl, hj⟩, hsz⟩ := hrel
    have hv := HI.out _ _ hj
    have HJP := Lib.hid hj
    clear hj
    by_cases hlt : k < vs.length
    · have hx := List.getElem?_eq_getElem hlt
      obtain ⟨p1, p2⟩ := prow_at vs k _ hx
      have c0 := hv.1
      have c1 : wr.cell? ⟨g, (vs.length - 1 - k) * 2, none⟩ = some vs[k].1 := (hv.2 _ (by omega)).trans p1
      have c2 : wr.cell? ⟨g, (vs.length - 1 - k) * 2 + 1, none⟩ = some vs[k].2 := (hv.2 _ (by omega)).trans p2
      have hpre : vs.take k ++ [vs[k]] = vs.take (k + 1) := by rw [List.take_succ_eq_append_getElem hlt]
      have hmay : backMay vs (vs.take k) vs[k] #[.int .i64 ((vs.length : Int) - 1 - k), .agg #[vs[k].1, vs[k].2]] wr := ⟨by rw [hpre]; exact List.take_prefix _ _, by simp; omega⟩
      obtain ⟨fn, tmps, assign, body, hy, hR⟩ := HY.out _ _ _ wr HJP.out hsz hmay
      rw [hpre] at hR
      clear hmay hpre p1 p2 hx hv
      obtain ⟨q, hq⟩ : ∃ q : Nat, q = vs.length - 1 - k := ⟨_, rfl⟩
      have hq' : ((vs.length : Int) - 1 - k) = (q : Int) := by omega
      rw [← hq] at c1 c2
      rw [hq'] at hy ⊢
      have HQ := Lib.hid hq
      have hql : q < vs.length := by omega
      generalize vs[k].1 = v1 at *
      generalize vs[k].2 = v2 at *
      clear hq hq'
      gi_wp2
      refine hR.mono ?_
      rintro e W3 (⟨rfl, hJ3, hk3⟩ | ⟨rfl, hJx3⟩)
      · have hs3 : wr.heap.size ≤ W3.heap.size := hk3.1.size
        have HJ3 := Lib.hid hJ3
        clear hR hy hJ3 hk3
        gi_wp2
        refine ⟨⟨⟨k + 1, by omega, ?_, HJ3.out⟩, by omega⟩, ?_⟩
        · have := HQ.out
          exact congrArg (Value.int .i64) (by omega)
        · simp [intOf]
      · gi_wp2
        refine bodyPost_ret (results_none rfl _ _ _) rfl ?_
        exact ⟨⟨_, rfl⟩, .inr ⟨_, List.take_prefix _ _, hJx3⟩⟩
    · have hkl : k = vs.length := by omega
      have hneg : ¬ (0 : Int) ≤ (vs.length : Int) - 1 - (k : Int) := by omega
      gi_wp2
      go_end0
      refine ⟨⟨_, rfl⟩, .inl ⟨_, rfl, ?_⟩⟩
      have h := HJP.out
      rw [hkl, List.take_length] at h
      exact h

theorem back_seq (F : Fence) (n : Nat) (hF : F.fn 59) (hro : F.round = none) (hn : 1 ≤ n) (Bs n₀ g cap : Nat) (vs : List (Value × Value)) (hvs : vs.length ≤ 9223372036854775807) (w : World) :
    SeqV F n Try.prog 59 #[.pointer (some ⟨Bs, 0, none⟩)] n₀ (backInv Bs g cap vs) (backMay vs) (fun xs => xs = vs) (fun pre => pre <+: vs) w := fun l J Jx W _ hJ _ hinv hY h0 =>
  back1_in F n hF hro hn l Bs n₀ g cap vs hvs J Jx W hinv hJ hY h0

end Go.Proofs.Ytgocfiahlbgjjaa
