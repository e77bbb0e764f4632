/- Q1h: joined of ConB, Bnd. -/
import Derived.Test.YtcbjnfdhghhgeaaBv
import Derived.Test.YtcbjnfdhghhgeaaVars
import Derived.Lib.AppendZerosOnto
import Derived.Lib.SliceRun
import Derived.Test.YtcbjnfdhghhgeaaSrt
import Derived.Test.YtcbjnfdhghhgeaaThen
/- Contracts of Grow and of Concat of bindings. -/
namespace Go.Proofs.Ytcbjnfdhghhgeaa
set_option linter.unusedVariables false
set_option linter.unusedSimpArgs false
open Go.RowKit

theorem BVals.append {ok : Nat → Prop} {w : World} : ∀ {s : Sb} {xs : List Value} {u : Sb} {ys : List Value}, BVals ok w s xs → BVals ok w u ys → BVals ok w (s ++ u) (xs ++ ys)
  | [], [], _, _, _, h => h
  | (_, _) :: _, _ :: _ :: _ :: _, _, _, ⟨p1, p2, p3, p4, p5, p6⟩, h => ⟨p1, p2, p3, p4, p5, BVals.append p6 h⟩
  | [], _ :: _, _, _, h, _ => h.elim
  | (_, _) :: _, [], _, _, h, _ => h.elim
  | (_, _) :: _, [_], _, _, h, _ => h.elim
  | (_, _) :: _, [_, _], _, _, h, _ => h.elim

/-- The cells of a list of bindings in memory. -/
theorem bvals_of {n₀ : Nat} {w : World} {b : Nat} : ∀ (s : Sb) (o : Nat), (∀ (j : Nat) (x : Int × T), s[j]? = some x → IsB n₀ w x b (o + j * 3)) →
    ∃ xs, BVals (· < n₀) w s xs ∧ ∀ (j : Nat) (v : Value), xs[j]? = some v → w.cell? ⟨b, o + j, none⟩ = some v ∧ v.oneCell' = true
  | [], o, _ => ⟨[], trivial, by simp⟩
  | (x, t) :: s, o, h => by
    obtain ⟨xs, h1, h2⟩ := bvals_of s (o + 3) (fun j y hy => by
      have := h (j + 1) y (by simpa using hy)
      rw [show o + 3 + j * 3 = o + (j + 1) * 3 from by omega]
      exact this)
    obtain ⟨p0, p1, p2⟩ := h 0 (x, t) rfl
    obtain ⟨q0, q1, a, c, q2, q3⟩ := isT_iff.1 p2
    simp only [Nat.zero_mul, Nat.add_zero] at p1 q1 q2
    refine ⟨.int .i64 x :: .int .i64 t.head :: .slice a t.args.length c :: xs, ⟨p0, rfl, q0, rfl, ⟨a, c, rfl, isArgsp_lt.2 q3⟩, h1⟩, fun j v hj => ?_⟩
    match j, hj with
    | 0, hj => simp at hj; subst hj; exact ⟨p1, rfl⟩
    | 1, hj => simp at hj; subst hj; exact ⟨q1, rfl⟩
    | 2, hj => simp at hj; subst hj; exact ⟨q2, rfl⟩
    | j + 3, hj => rw [show o + (j + 3) = o + 3 + j from by omega]; exact h2 j v (by simpa using hj)

theorem run_append_own_nil {P : Program} {w : World} (base : Nat) (t ty e : TypeId) (i : TypeInfo) (size c : Nat) (ht : P.underlying t = some (.slice e)) (hi : P.info? e = some i)
    (v : Value) (n : Nat) (xs : List Value) (hown : w.ownsRow base e size v n xs) :
    (Builtin.append_ #[t, t] ty #[v, .slice none 0 c]).run P w = .ok v w := by
  rcases hown.2 with ⟨rfl, rfl⟩ | ⟨g, cap, cur, rfl, _, _, hnc, _⟩
  · simp [Builtin.append_, run_underlying ht, sizeOf, typeInfo, hi, Builtin.lenOf, Builtin.firstCells]
  · simp [Builtin.append_, run_underlying ht, sizeOf, typeInfo, hi, Builtin.lenOf, Builtin.firstCells, hnc, storeCells]
theorem wpList_append_own_nil {P : Program} {w : World} {ops : Array Oper} {rest : List Oper} {o : Oper} {a : Act} {Q : Exit → Act → World → Prop} (hgd : o.guard = none) (s x : Operand) (t : TypeId)
    (ho : o.op = .call { callee := .builtin .append, args := #[s, x], argTypes := #[t, t] })
    (base : Nat) (e : TypeId) (i : TypeInfo) (size c : Nat) (ht : P.underlying t = some (.slice e)) (hi : P.info? e = some i)
    (v : Value) (n : Nat) (xs : List Value) (hs : a.eval s = v) (hown : w.ownsRow base e size v n xs) (hx : a.eval x = .slice none 0 c)
    (h : wpList P ops Q rest (a.put o.dst v) w) : wpList P ops Q (o :: rest) a w := by
  refine wpList_plain hgd fun K hK => ?_
  have hrun := run_append_own_nil (P := P) (w := w) base t o.type e i size c ht hi v n xs hown
  unfold Oper.wp
  simp [execOp, ho, resolve, invoke, builtin, hs, hx, hrun, Result.andThen]
  exact hK _ _ h

/-- append(v, s...), where v is a row of bindings of one's own. -/
theorem wpList_append_bs {w : World} {ops : Array Oper} {rest : List Oper} {o : Oper} {a : Act} {Q : Exit → Act → World → Prop} (hgd : o.guard = none) (s x : Operand)
    (ho : o.op = .call { callee := .builtin .append, args := #[s, x], argTypes := #[22, 22] }) (base : Nat) (v : Value) (n : Nat) (xs : List Value) (hs : a.eval s = v) (hown : w.ownsRow base 43 3 v n xs)
    (zs : Sb) (a' : Option Addr) (c' : Nat) (n₀ : Nat) (hx : a.eval x = .slice a' zs.length c') (hI : IsBs n₀ w zs a' c') (hl : n + zs.length ≤ 1000000000000) (hbase : base ≤ w.heap.size)
    (h : ∀ v' w' ys, w'.ownsRow base 43 3 v' (n + zs.length) (xs ++ ys) → BVals (· < n₀) w zs ys → w.grownBy w' v.ownBlock → wpList Try.prog ops Q rest (a.put o.dst v') w') : wpList Try.prog ops Q (o :: rest) a w := by
  obtain ⟨i0, hi, hz0, hz1, hz2⟩ := info_parts infoBind
  cases a' with
  | none =>
    have h0 : zs = [] := by rcases hI.2.2 with h | ⟨_, _, h, _⟩; exact h; cases h
    subst h0
    refine wpList_append_own_nil hgd s x 22 ho base 43 i0 3 c' Try.underlying22 hi v n xs hs hown hx ?_
    exact h v w [] (by simpa using hown) trivial ⟨rfl, rfl, rfl, Nat.le_refl _, fun _ _ _ => rfl⟩
  | some ad =>
    rcases hI.2.2 with rfl | ⟨b, o', e, _, h6⟩
    · refine wpList_append_own w hgd s x 22 ho base 43 i0 _ 3 40 Try.underlying22 hi hz0 hz1 hz2 rfl (by decide) v n xs hs hown ad 0 c' [] hx (by simp) (by simp) (by simp) (by unfold maxLen; simp at hl; omega) (by simp at hl; omega) hbase (fun v' w' h1 h2 _ => h v' w' [] (by simpa using h1) trivial h2)
    · cases e
      obtain ⟨ys, hy1, hy2⟩ := bvals_of zs o' h6
      refine wpList_append_own w hgd s x 22 ho base 43 i0 _ 3 40 Try.underlying22 hi hz0 hz1 hz2 rfl (by decide) v n xs hs hown _ zs.length c' ys hx hy1.length (fun j u hj => ?_) (fun u hu => ?_) (by unfold maxLen; omega) (by omega) hbase (fun v' w' h1 h2 _ => h v' w' ys h1 hy1 h2)
      · rw [addr_add]; exact (hy2 j u hj).1
      · obtain ⟨j, hj⟩ := List.getElem?_of_mem hu
        exact (hy2 j u hj).2

set_option maxRecDepth 100000 in
set_option maxHeartbeats 2000000 in
theorem growB_any (n : Nat) (hn : n ≤ 100000) (w : World) : Calls Try.prog 100 #[.slice none 0 0, .int .i64 n] w fun e w' =>
    ∃ v, e = .returned v ∧ w'.ownsRow w.heap.size 43 3 v 0 [] ∧ Below w.heap.size w w' := by
  by_cases h0 : n = 0
  · subst h0
    go_enter Try.func100, Try.ntmps100
    go_wp2
    go_ret
    exact ⟨_, rfl, World.ownsRow_nil _ _ _ _, Below.refl _ _⟩
  · obtain ⟨i0, hi, hz0, hz1, hz2⟩ := info_parts infoBind
    have hrz : ∀ ty, (Builtin.append_ #[22, 3] ty #[.slice none 0 0, .int .i64 (n : Int)]).run Try.prog w =
        .ok (.slice (some ⟨w.heap.size, 0, none⟩) n (grownCap w n 0 43)) (w.drew.alloc (.cells (#[] ++ Builtin.zeroCells (Value.agg #[.int .i64 0, .int .i64 0, .slice none 0 0]).cells n ++ Builtin.zeroCells (Value.agg #[.int .i64 0, .int .i64 0, .slice none 0 0]).cells (grownCap w n 0 43 - n)) 43)) := fun ty => by
      have h := Lib.run_append_grow_zeros w 22 3 ty 43 i0 _ .i64 .i64 Try.underlying22 Try.underlying3 hi hz0 none 0 0 [] (run_firstCells_none w.drew i0.size 0 0 0) n (by omega) (by rw [hz1]; omega) (by omega) (by omega) (by rw [hz2]; omega)
        (growslice_fits (by omega) (by rw [hz2]; omega))
      simpa using h
    have hGn : n ≤ grownCap w n 0 43 := grownCap_ge w _ _ _
    have hGm := grownCap_le_maxLen w n 0 43 (by unfold maxLen; omega)
    obtain ⟨G, hG⟩ : ∃ G, G = grownCap w n 0 43 := ⟨_, rfl⟩
    rw [← hG] at hrz hGn hGm
    have HM := Lib.hid hGm
    unfold maxLen at hGm
    clear hG hi hz0 hz1 hz2
    obtain ⟨w', hw'⟩ : ∃ w', w' = w.drew.alloc (.cells (#[] ++ Builtin.zeroCells (Value.agg #[.int .i64 0, .int .i64 0, .slice none 0 0]).cells n ++ Builtin.zeroCells (Value.agg #[.int .i64 0, .int .i64 0, .slice none 0 0]).cells (G - n)) 43) := ⟨_, rfl⟩
    rw [← hw'] at hrz
    have HW := Lib.hid hw'
    clear hw'
    have h4 : ((n : Int) > 0) := by omega
    have h5 : ¬ ((n : Int) < 0) := by omega
    go_enter Try.func100, Try.ntmps100
    go_wp2_with (at_builtin; refine Lib.wpList_append_run _ rfl _ _ _ _ rfl _ _ rfl rfl _ _ (hrz _) ?_)
    all_goals go_ret
    have hW := HW.out
    subst hW
    refine ⟨_, rfl, ⟨by simp, .inr ⟨_, _, _, rfl, Nat.le_refl _, heap_alloc_new w.drew _, by omega, HM.out, ?_, by simp⟩⟩, ?_⟩
    · simp only [Array.size_append, size_zeroCells]
      simp [Value.cells]
      omega
    · exact (show Below w.heap.size w w.drew from ⟨rfl, rfl, rfl, Nat.le_refl _, fun _ _ => rfl⟩).alloc (Nat.le_refl _) _

/-! ### Concat -/
def ConI (L : List Sb) (n₀ : Nat) (w : World) (v i : Value) (wr : World) : Prop :=
  ∃ k : Nat, k ≤ L.length ∧ i = .int .i64 k ∧ ∃ xs, wr.ownsRow w.heap.size 43 3 v ((L.take k).flatten).length xs ∧ BVals (· < n₀) wr (L.take k).flatten xs ∧ Below w.heap.size w wr
theorem flat_take {L : List Sb} {k : Nat} {zs : Sb} (h : L[k]? = some zs) : (L.take (k + 1)).flatten = (L.take k).flatten ++ zs := by
  obtain ⟨hk, e⟩ := List.getElem?_eq_some_iff.1 h
  rw [List.take_succ_eq_append_getElem hk, e]; simp
theorem flat_take_le (L : List Sb) (k : Nat) : (L.take k).flatten.length ≤ L.flatten.length := by
  have : (L.take k ++ L.drop k).flatten = L.flatten := by rw [List.take_append_drop]
  rw [← this, List.flatten_append, List.length_append]; omega

set_option maxRecDepth 100000 in
set_option maxHeartbeats 2000000 in
theorem concB_any (L : List Sb) (hll : L.length ≤ 100) (hfl : L.flatten.length ≤ 100000) (n₀ B O c : Nat) (w : World) (hn : n₀ ≤ w.heap.size)
    (hL : ∀ (j : Nat) (zs : Sb), L[j]? = some zs → ∃ ad c', w.cell? ⟨B, O + j, none⟩ = some (.slice ad zs.length c') ∧ IsBs n₀ w zs ad c') :
    Calls Try.prog 75 #[.slice (some ⟨B, O, none⟩) L.length c] w fun e w' =>
      ∃ a c, e = .returned (.slice a L.flatten.length c) ∧ IsBs w'.heap.size w' L.flatten a c ∧ Below w.heap.size w w' := by
  have HL := Lib.hid hL
  clear hL
  go_enter Try.func75, Try.ntmps75
  go_wp2
  go_loop [3, 11] (fun t i => ∃ k : Nat, k ≤ L.length ∧ i = .int .i64 k ∧ t = .int .i64 (((L.take k).flatten.length : Nat) : Int)) (fun _ i => L.length - (intOf i).toNat)
  case atStart => exact ⟨0, Nat.zero_le _, rfl, rfl⟩
  case round =>
    obtain ⟨k, hk, rfl, rfl⟩ := hrel
    have hle := flat_take_le L k
    by_cases hlt : k < L.length
    · have hzs := List.getElem?_eq_getElem hlt
      generalize L[k] = zs at hzs
      obtain ⟨ad, c', hc, _⟩ := HL.out k zs hzs
      have hft := flat_take hzs
      have hle2 := flat_take_le L (k + 1)
      have HFT := Lib.hid (congrArg List.length hft)
      rw [hft, List.length_append] at hle2
      generalize hq : (L.take k).flatten.length = q at *
      have HQ := Lib.hid hq
      have h9 : ¬ ((q : Int) + (zs.length : Int) < 0) := by omega
      clear hq hft hzs
      go_wp2
      go_round
      case rel =>
        refine ⟨k + 1, by omega, by go_num, ?_⟩
        have h1 := HFT.out
        rw [List.length_append, HQ.out] at h1
        rw [h1]
        exact congrArg (fun x : Int => Value.int .i64 x) (by omega)
      case measure => simp [intOf]; omega
    · obtain rfl : k = L.length := by omega
      rw [List.take_length] at hle ⊢
      generalize hq : L.flatten.length = q at *
      have HQ := Lib.hid hq
      clear hq hlt hk
      go_wp2_with fail
      refine (growB_any q (by omega) w).mono ?_
      rintro e w1 ⟨v, rfl, hown1, hb1⟩
      have HO1 := Lib.hid hown1
      have HB1 := Lib.hid hb1
      clear hown1 hb1
      go_wp2
      go_loopw [6, 27] (fun v i wr => ConI L n₀ w v i wr) (fun _ i _ => L.length - (intOf i).toNat)
      case atStart => exact ⟨0, Nat.zero_le _, rfl, [], by simpa using HO1.out, trivial, HB1.out⟩
      case round =>
        clear HO1 HB1
        obtain ⟨k, hk, rfl, xs, hown, hbv, hB⟩ := hrel
        have HO := Lib.hid hown
        have HV := Lib.hid hbv
        have HB := Lib.hid hB
        clear hown hB hbv
        by_cases hlt : k < L.length
        · have hzs := List.getElem?_eq_getElem hlt
          generalize L[k] = zs at hzs
          obtain ⟨ad, c', hc, hbs⟩ := HL.out k zs hzs
          have hbl : B < w.heap.size := World.block_lt_of_cell? w ⟨B, O + k, none⟩ hc
          have hc2 := (HB.out.cell (p := ⟨B, O + k, none⟩) hbl).trans hc
          have hft := flat_take hzs
          have hle2 := flat_take_le L (k + 1)
          rw [hft, List.length_append] at hle2
          have HFT := Lib.hid hft
          have HBS := Lib.hid (hbs.below (HB.out.mono hn))
          have hql := HQ.out
          clear hft hzs hbs hc
          go_wp2_with (at_builtin; refine stopHere ?_)
          refine Lib.hid ?_
          refine wpList_append_bs rfl _ _ rfl w.heap.size _ _ _ rfl HO.out zs ad c' n₀ rfl HBS.out (by omega) HB.out.size ?_
          intro v' w2 ys hown2 hbv2 hgr2
          have HO2 := Lib.hid hown2
          have HG2 := Lib.hid hgr2
          have HV2 := Lib.hid hbv2
          clear hown2 hgr2 hbv2
          go_wp2
          go_roundw
          case rel =>
            have hlow : ∀ b, b < n₀ → w2.heap[b]? = wr.heap[b]? := fun b hb => HG2.out.block b (by have := HB.out.size; omega) (fun e => by have := (HO.out.lt b e.symm).1; omega)
            refine ⟨k + 1, by omega, by go_num, xs ++ ys, ?_, ?_, HB.out.grown HG2.out HB.out.size (fun q hq => (HO.out.lt q hq).1)⟩
            · rw [HFT.out, List.length_append]
              exact HO2.out
            · rw [HFT.out]
              exact (HV.out.keep hlow (fun b hb => hb)).append (HV2.out.keep hlow (fun b hb => hb))
          case measure => simp [intOf]; omega
        · obtain rfl : k = L.length := by omega
          have hown := HO.out
          have hbv := HV.out
          rw [List.take_length] at hown hbv
          obtain ⟨ar, cr, hvv, hBs⟩ := isBs_of_owns (n := wr.heap.size) hown hbv (fun b hb => by have := HB.out.size; omega) (fun g hg => by have := hown.lt g hg; omega)
          subst hvv
          have HBS := Lib.hid hBs
          have hql := HQ.out
          clear hown hbv hBs HO HV
          go_wp2
          go_ret
          exact ⟨ar, cr, rfl, HBS.out, HB.out⟩

end Go.Proofs.Ytcbjnfdhghhgeaa

/- Contract of boundVars: the variables that either of two substitutions binds. -/
namespace Go.Proofs.Ytcbjnfdhghhgeaa
set_option linter.unusedVariables false
set_option linter.unusedSimpArgs false
open Go.RowKit Go.Sort

theorem rightS_len : ∀ {s : Sb} {l : Int}, l ≤ 256 → rightS l s = true → l + s.length ≤ 256
  | [], l, hl, _ => by simp; omega
  | (x, t) :: s, l, hl, h => by
    rw [rightS] at h
    simp only [Bool.and_eq_true, decide_eq_true_iff] at h
    have := rightS_len (s := s) (l := x + 1) (by omega) h.2
    simp only [List.length_cons]
    omega
theorem bnd_mem {s : Sb} {v : Int} : bnd s v = true ↔ v ∈ s.map Prod.fst := by
  simp [bnd, List.any_eq_true, List.mem_map]

def BdI (zs : List Int) (wL : World) (v i : Value) (wr : World) : Prop :=
  ∃ k : Nat, k ≤ zs.length ∧ i = .int .i64 k ∧ (k = 0 → v = .slice none 0 0) ∧ wr.ownsRow wL.heap.size 3 1 v k ((zs.take k).map (Value.int .i64)) ∧ Below wL.heap.size wL wr

set_option maxRecDepth 100000 in
set_option maxHeartbeats 2000000 in
theorem bound_any : BoundAny := by
  intro s u hs hu n₀ a c a' c' w hn hS hU
  have hl1 := rightS_len (by omega) hs
  have hl2 := rightS_len (by omega) hu
  obtain ⟨zs, hzs⟩ : ∃ zs, (s ++ u).map Prod.fst = zs := ⟨_, rfl⟩
  have hzl : zs.length = (s ++ u).length := by rw [← hzs]; simp
  have hlz : zs.length ≤ 1000 := by rw [hzl, List.length_append]; omega
  have HV := Lib.hid (show IsVs s u (Go.Lib.compact (sorted zs)) from ⟨(sorted_rising zs).1, fun v => by rw [(sorted_rising zs).2 v, ← hzs, List.map_append, List.mem_append, bnd_mem, bnd_mem]⟩)
  have HVL := Lib.hid (show (Go.Lib.compact (sorted zs)).length ≤ 1000 from Nat.le_trans (compact_length _) (by rw [sorted_length]; exact hlz))
  have CC : Calls Try.prog 75 #[.slice (some ⟨w.heap.size, 0, none⟩) 2 2] (w.alloc (.cells #[.slice a s.length c, .slice a' u.length c'] 22)) fun e w' =>
      ∃ ar cr, e = .returned (.slice ar zs.length cr) ∧ IsBs w'.heap.size w' (s ++ u) ar cr ∧ Below w.heap.size w w' := by
    rw [hzl]
    have h := concB_any [s, u] (by simp) (by simp; omega) n₀ w.heap.size 0 2 (w.alloc (.cells #[.slice a s.length c, .slice a' u.length c'] 22)) (by simp; omega) (fun j zs hz => by
      have hb : Below n₀ w (w.alloc (.cells #[.slice a s.length c, .slice a' u.length c'] 22)) := (Below.refl _ _).alloc hn _
      match j, hz with
      | 0, hz => simp at hz; subst hz; exact ⟨a, c, by simp [go_sem], hS.below hb⟩
      | 1, hz => simp at hz; subst hz; exact ⟨a', c', by simp [go_sem], hU.below hb⟩)
    refine h.mono ?_
    rintro e w' ⟨ar, cr, he, hI, hb⟩
    have hf : [s, u].flatten = s ++ u := by simp
    rw [hf] at he hI
    exact ⟨ar, cr, he, hI, ((Below.refl w.heap.size w).alloc (Nat.le_refl _) _).trans (hb.mono (by simp))⟩
  have HC := Lib.hid CC
  have HZS := Lib.hid hzs
  clear hS hU CC hs hu hzs hn
  obtain ⟨i0, hi, hz0, hz1, hz2⟩ := info_parts info3
  go_enter Try.func46, Try.ntmps46
  go_wp2_with fail
  refine HC.out.mono ?_
  rintro e wL ⟨ar, cr, rfl, hI, hb⟩
  have HI := Lib.hid hI
  have HBL := Lib.hid hb
  have hlc : (s ++ u).length ≤ cr ∧ cr ≤ maxLen := ⟨hI.1, hI.2.1⟩
  unfold maxLen at hlc
  obtain ⟨hlc1, hlc2⟩ := hlc
  rw [← hzl] at hlc1
  have HZL := Lib.hid hzl
  clear hI hb HC hzl
  go_wp2
  go_loopw [5, 13] (fun v i wr => BdI zs wL v i wr) (fun _ i _ => zs.length - (intOf i).toNat)
  case atStart => exact ⟨0, Nat.zero_le _, rfl, fun _ => rfl, World.ownsRow_nil _ _ _ _, Below.refl _ _⟩
  case round =>
    obtain ⟨k, hk, rfl, hv0, hown, hB⟩ := hrel
    have HO := Lib.hid hown
    have HB := Lib.hid hB
    have H0 := Lib.hid hv0
    have hbz := hB.size
    clear hown hB hv0
    by_cases hlt : k < zs.length
    · obtain ⟨b, o, x, t, a2, c2, rfl, hbn, hsk, hxw, htw, hc0, hc1, hc2, _⟩ := (HI.out.below HB.out).elem (i := k) (by have := HZL.out; omega)
      have hzk : zs[k]? = some x := by rw [← HZS.out, List.getElem?_map, hsk]; rfl
      have HZK := Lib.hid hzk
      have hk0 : (0 : Int) ≤ (k : Int) := Int.natCast_nonneg _
      have hk1 : (k : Int) < (zs.length : Int) := by omega
      have hbw : b < wr.heap.size := by omega
      have hkm : k + 1 ≤ maxLen := by unfold maxLen; omega
      clear hsk hxw htw hzk
      go_wp2_with (at_builtin; refine stopHere ?_)
      refine Lib.hid ?_
      refine wpList_append_own _ rfl _ _ 46 rfl wL.heap.size 3 i0 (.int .i64 0) 1 8 Try.underlying46 hi hz0 hz1 hz2 rfl (by decide) _ k _ rfl ((HO.out.alloc _).alloc _) ⟨wr.heap.size + 1, 0, none⟩ 1 1 [.int .i64 x] (by rfl) rfl (cell_one_at _ _ _ _ (by simp)) (by simp [Value.oneCell']) hkm (by omega) (by simp; omega) ?_
      intro v' w2 hown2 hgr2 hiff
      have HO2 := Lib.hid hown2
      have HG2 := Lib.hid hgr2
      clear hown2 hgr2 hiff
      go_wp2
      go_roundw
      case rel =>
        refine ⟨k + 1, by omega, by go_num, fun e => by omega, ?_, ?_⟩
        · obtain ⟨hkl, hke⟩ := List.getElem?_eq_some_iff.1 HZK.out
          rw [List.take_succ_eq_append_getElem hkl, hke, List.map_append]
          exact HO2.out
        · exact ((HB.out.alloc hbz _).alloc (by simp; omega) _).grown HG2.out (by simp; omega) (fun q hq => (HO.out.lt q hq).1)
      case measure => simp [intOf]; omega
    · obtain rfl : k = zs.length := by omega
      have hF := HBL.out.trans (HB.out.mono HBL.out.size)
      have HF := Lib.hid hF
      have hown := HO.out
      rw [List.take_length] at hown
      by_cases hz : zs.length = 0
      · have h0 := H0.out hz
        subst h0
        have hzn : zs = [] := List.eq_nil_of_length_eq_zero hz
        subst hzn
        clear hown hF
        go_wp2_with fail
        refine (sort_zero _).mono ?_
        rintro e w2 ⟨rfl, rfl⟩
        go_wp2_with fail
        refine (Any.slices_Compact_int_empty Try.lays2c20 none 0 _).mono ?_
        rintro e w3 ⟨rfl, rfl⟩
        go_wp2
        go_ret
        exact ⟨_, none, 0, HV.out, HVL.out, by simp [Go.Lib.compact, Go.Lib.compactUpTo, sorted], ⟨by simp [Go.Lib.compact, Go.Lib.compactUpTo, sorted], by simp [maxLen], .inl (by simp [Go.Lib.compact, Go.Lib.compactUpTo, sorted])⟩, HF.out⟩
      · obtain ⟨m, hm⟩ : ∃ m, zs.length = m + 1 := ⟨zs.length - 1, by omega⟩
        obtain ⟨g, cap, hvv⟩ := ownsRow_succ (hm ▸ hown)
        rw [← hm] at hvv
        subst hvv
        have HO3 := Lib.hid hown
        clear hown hm hF
        go_wp2_with fail
        refine (sort_any wL.heap.size zs g cap wr (by omega) HO3.out).mono ?_
        rintro e w2 ⟨rfl, hown2, hgr2⟩
        have HB2 := Lib.hid (HB.out.grown hgr2 hbz (fun q hq => (HO3.out.lt q (by simpa [Value.ownBlock] using hq)).1))
        have HO2 := Lib.hid hown2
        clear hown2 hgr2
        go_wp2_with fail
        rw [← sorted_length zs]
        have h3 := HO2.out
        rw [← sorted_length zs] at h3
        refine (compact_any wL.heap.size (sorted zs) g cap w2 (compact_length _) h3).mono ?_
        rintro e w3 ⟨rfl, hI3, hgr3⟩
        have HB3 := Lib.hid (HB2.out.grown hgr3 HB2.out.size (fun q hq => (h3.lt q (by simpa [Value.ownBlock] using hq)).1))
        have HI3 := Lib.hid hI3
        clear hI3 hgr3 h3
        go_wp2
        go_ret
        exact ⟨_, _, _, HV.out, HVL.out, rfl, HI3.out, HBL.out.trans (HB3.out.mono HBL.out.size)⟩

end Go.Proofs.Ytcbjnfdhghhgeaa
