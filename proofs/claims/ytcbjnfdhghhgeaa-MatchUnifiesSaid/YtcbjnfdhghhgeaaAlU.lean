/- AlU: joined of AlU, Mgu. -/
import Derived.Test.YtcbjnfdhghhgeaaQ1b
import Derived.Test.YtcbjnfdhghhgeaaQ1f
import Derived.Test.YtcbjnfdhghhgeaaSrt
import Derived.Test.YtcbjnfdhghhgeaaUf
import Derived.Shelf.SortG.Plain
import Derived.Test.YtcbjnfdhghhgeaaBld
import Derived.Shelf.SortG.SortNone
/- AlU: joined of Nv, SrtN, AlU. -/
/- Contracts of unify's notValid, and of ContainsFunc with it. -/
namespace Go.Proofs.Ytcbjnfdhghhgeaa
set_option linter.unusedVariables false
set_option linter.unusedSimpArgs false
open Go.RowKit

theorem notValid_any (t : T) (ht : t.size ≤ 1000000000000) (n₀ : Nat) (a : Option Addr) (c : Nat) (w : World) (hn : n₀ ≤ w.heap.size) (hwf : (Lit.int .i64 t.head).wf = true) (hA : IsArgs n₀ w t.args a c) :
    Calls Try.prog 82 #[tm t.head a t.args.length c] w fun e w' => e = .returned (.bool (decide (t.check ≠ 0))) ∧ Below w.heap.size w w' := by
  have hb : Below w.heap.size w (w.alloc (tmCells t.head a t.args.length c)) := (Below.refl _ _).alloc (Nat.le_refl _) _
  have CC := Lib.hid (check_any t ht n₀ a c (w.alloc (tmCells t.head a t.args.length c)) (by simp; omega) hwf (hA.below (hb.mono hn)))
  have HB := Lib.hid hb
  clear hb hA
  go_enter Try.func82, Try.ntmps82
  go_wp2_with fail
  refine CC.out.mono ?_
  rintro e w2 ⟨rfl, hb2⟩
  have HB2 := Lib.hid (HB.out.trans (hb2.mono (by simp)))
  clear hb2
  cases hd : decide (t.check ≠ 0)
  · have hz : t.check = 0 := by simpa using hd
    have HZ := Lib.hid hz
    rw [hz]
    have HD := Lib.hid (show decide (t.check ≠ 0) = false from hd)
    clear hd hz
    go_wp2
    go_ret
    refine ⟨?_, HB2.out⟩
    first | (rw [HD.out]; rfl) | (simp [HZ.out])
  · have hz : (t.check == 0) = false := by simpa using hd
    obtain ⟨k, hk⟩ : ∃ k, t.check = k := ⟨_, rfl⟩
    rw [hk] at hz ⊢
    have HD := Lib.hid (show decide (t.check ≠ 0) = true from by rw [hk]; rw [hk] at hd; exact hd)
    clear hd hk
    go_wp2
    go_ret
    refine ⟨?_, HB2.out⟩
    have h2 : (k != 0) = true := by simp [bne, hz]
    have h3 : t.check ≠ 0 := of_decide_eq_true HD.out
    simp [h3, hz]
    try exact h2
    try simpa using h2

def badL (ts : List T) : Bool := ts.any fun t => decide (t.check ≠ 0)
def IdxI (ts : List T) (w : World) (i : Value) (wr : World) : Prop := ∃ k : Nat, k ≤ ts.length ∧ i = .int .i64 k ∧ badL ts = badL (ts.drop k) ∧ Below w.heap.size w wr
abbrev nvFn : Value := .func (.func 82) #[] #[]

set_option maxRecDepth 100000 in
set_option maxHeartbeats 2000000 in
theorem index_any (ts : List T) (hts : ∀ t ∈ ts, t.size ≤ 1000000000000) (n₀ : Nat) (a : Option Addr) (c : Nat) (w : World) (hn : n₀ ≤ w.heap.size) (hA : IsArgs n₀ w ts a c) :
    Calls Try.prog 92 #[.slice a ts.length c, nvFn] w fun e w' => ∃ j : Int, e = .returned (.int .i64 j) ∧ decide (0 ≤ j) = badL ts ∧ Below w.heap.size w w' := by
  have hlc : ts.length ≤ c ∧ c ≤ maxLen := ⟨hA.1, hA.2.1⟩
  unfold maxLen at hlc
  obtain ⟨hl1, hl2⟩ := hlc
  have HA := Lib.hid hA
  have HT := Lib.hid hts
  clear hA hts
  go_enter Try.func92, Try.ntmps92
  go_wp2
  go_loopw [8] (fun i wr => IdxI ts w i wr) (fun i _ => ts.length - (intOf i).toNat)
  case atStart => exact ⟨0, Nat.zero_le _, rfl, by simp, Below.refl _ _⟩
  case round =>
    obtain ⟨k, hk, rfl, hbd, hB⟩ := hrel
    have HBD := Lib.hid hbd
    have HB := Lib.hid hB
    have hbz := hB.size
    clear hbd hB
    by_cases hlt : k < ts.length
    · obtain ⟨b, o, s, a', c', rfl, hbn, hs, hswf, hc1, hc2, hA'⟩ := (HA.out.below (HB.out.mono hn)).elem (i := k) hlt
      have hk0 : (0 : Int) ≤ (k : Int) := Int.natCast_nonneg _
      have hk1 : (k : Int) < (ts.length : Int) := by omega
      have hbw : b < wr.heap.size := by omega
      have CN := Lib.hid (notValid_any s (HT.out s (List.mem_of_getElem? hs)) n₀ a' c' wr (by omega) hswf hA')
      have hst : badL (ts.drop k) = (decide (s.check ≠ 0) || badL (ts.drop (k + 1))) := by
        obtain ⟨hkl, hke⟩ := List.getElem?_eq_some_iff.1 hs
        rw [List.drop_eq_getElem_cons hkl, hke]; rfl
      have HSTEP := Lib.hid hst
      clear hs hswf hA' hst
      go_wp2_with fail
      refine CN.out.mono ?_
      rintro e w2 ⟨rfl, hb2⟩
      have HB2 := Lib.hid (HB.out.trans (hb2.mono hbz))
      clear hb2
      cases hd : decide (s.check ≠ 0)
      · have H0 := Lib.hid (show badL (ts.drop k) = badL (ts.drop (k + 1)) from by rw [HSTEP.out, hd]; rfl)
        clear hd
        go_wp2
        go_roundw
        case rel => exact ⟨k + 1, by omega, by go_num, HBD.out.trans H0.out, HB2.out⟩
        case measure => simp [intOf]; omega
      · have H0 := Lib.hid (show badL ts = true from by rw [HBD.out, HSTEP.out, hd]; rfl)
        clear hd
        go_wp2
        go_ret
        exact ⟨(k : Int), rfl, by rw [H0.out]; simp, HB2.out⟩
    · obtain rfl : k = ts.length := by omega
      have H0 := Lib.hid (show badL ts = false from by rw [HBD.out, List.drop_of_length_le (Nat.le_refl _)]; rfl)
      go_wp2
      go_ret
      exact ⟨-1, rfl, by rw [H0.out]; rfl, HB.out⟩

theorem contains_any (ts : List T) (hts : ∀ t ∈ ts, t.size ≤ 1000000000000) (n₀ : Nat) (a : Option Addr) (c : Nat) (w : World) (hn : n₀ ≤ w.heap.size) (hA : IsArgs n₀ w ts a c) :
    Calls Try.prog 60 #[.slice a ts.length c, nvFn] w fun e w' => e = .returned (.bool (badL ts)) ∧ Below w.heap.size w w' := by
  have CI := Lib.hid (index_any ts hts n₀ a c w hn hA)
  clear hA hts
  go_enter Try.func60, Try.ntmps60
  go_wp2_with fail
  refine CI.out.mono ?_
  rintro e w2 ⟨j, rfl, hj, hb⟩
  have HJ := Lib.hid hj
  have HB := Lib.hid hb
  clear hj hb
  go_wp2
  go_ret
  exact ⟨by rw [← HJ.out]; rfl, HB.out⟩

end Go.Proofs.Ytcbjnfdhghhgeaa

/- The library's sort of nodes, at this program. -/
namespace Go.Proofs
open Go.Shelf
def Try.laysNode_ren : Go.Shelf.Ren := ⟨fun | 53 => 85 | 64 => 102 | 63 => 110 | 78 => 128 | 79 => 129 | 70 => 130 | 71 => 131 | 72 => 132 | 73 => 133 | 74 => 134 | 75 => 135 | 59 => 136 | 76 => 137 | 77 => 138 | 88 => 146 | 89 => 141 | 90 => 142 | 91 => 147 | 92 => 148 | 68 => 149 | 96 => 151 | n => n, fun | 22 => 106 | 23 => 110 | 3 => 3 | 51 => 141 | 0 => 0 | 67 => 167 | 69 => 169 | 4 => 4 | 61 => 160 | 60 => 159 | 44 => 134 | 5 => 5 | 9 => 9 | 75 => 178 | 79 => 182 | 83 => 187 | 84 => 188 | n => n, fun | n => n⟩
theorem Try.laysNode : Go.Proofs.SlLaysN.n53 Try.prog Try.laysNode_ren := {
  mixed := by kernel_rfl
  f53 := ⟨Try.f85.name, by decide, Try.func85.trans (congrArg some (by kernel_rfl))⟩
  f59 := ⟨Try.f136.name, by decide, Try.func136.trans (congrArg some (by kernel_rfl))⟩
  f63 := ⟨Try.f110.name, by decide, Try.func110.trans (congrArg some (by kernel_rfl))⟩
  f64 := Try.func102.trans (congrArg some (by kernel_rfl))
  f68 := ⟨Try.f149.name, by decide, Try.func149.trans (congrArg some (by kernel_rfl))⟩
  f70 := ⟨Try.f130.name, by decide, Try.func130.trans (congrArg some (by kernel_rfl))⟩
  f71 := ⟨Try.f131.name, by decide, Try.func131.trans (congrArg some (by kernel_rfl))⟩
  f72 := ⟨Try.f132.name, by decide, Try.func132.trans (congrArg some (by kernel_rfl))⟩
  f73 := ⟨Try.f133.name, by decide, Try.func133.trans (congrArg some (by kernel_rfl))⟩
  f74 := ⟨Try.f134.name, by decide, Try.func134.trans (congrArg some (by kernel_rfl))⟩
  f75 := ⟨Try.f135.name, by decide, Try.func135.trans (congrArg some (by kernel_rfl))⟩
  f76 := ⟨Try.f137.name, by decide, Try.func137.trans (congrArg some (by kernel_rfl))⟩
  f77 := ⟨Try.f138.name, by decide, Try.func138.trans (congrArg some (by kernel_rfl))⟩
  f78 := Try.func128.trans (congrArg some (by kernel_rfl))
  f79 := Try.func129.trans (congrArg some (by kernel_rfl))
  f88 := ⟨Try.f146.name, by decide, Try.func146.trans (congrArg some (by kernel_rfl))⟩
  f89 := Try.func141.trans (congrArg some (by kernel_rfl))
  f90 := Try.func142.trans (congrArg some (by kernel_rfl))
  f91 := ⟨Try.f147.name, by decide, Try.func147.trans (congrArg some (by kernel_rfl))⟩
  f92 := ⟨Try.f148.name, by decide, Try.func148.trans (congrArg some (by kernel_rfl))⟩
  f96 := ⟨Try.f151.name, by decide, Try.func151.trans (congrArg some (by kernel_rfl))⟩
  t0 := Try.underlying0
  a0 := Try.isAgg0
  z0 := Try.sizeOf0
  v0 := Try.zeroValue0
  t3 := Try.underlying3
  a3 := Try.isAgg3
  z3 := Try.sizeOf3
  v3 := Try.zeroValue3
  t4 := Try.underlying4
  a4 := Try.isAgg4
  z4 := Try.sizeOf4
  v4 := Try.zeroValue4
  t5 := Try.underlying5
  a5 := Try.isAgg5
  z5 := Try.sizeOf5
  v5 := Try.zeroValue5
  t9 := Try.underlying9
  a9 := Try.isAgg9
  z9 := Try.sizeOf9
  v9 := Try.zeroValue9
  t22 := Try.underlying106
  a22 := Try.isAgg106
  z22 := Try.sizeOf106
  v22 := Try.zeroValue106
  t23 := Try.underlying110
  a23 := Try.isAgg110
  z23 := Try.sizeOf110
  v23 := Try.zeroValue110
  t44 := Try.underlying134
  a44 := Try.isAgg134
  z44 := Try.sizeOf134
  v44 := Try.zeroValue134
  t51 := Try.underlying141
  a51 := Try.isAgg141
  z51 := Try.sizeOf141
  v51 := Try.zeroValue141
  t60 := Try.underlying159
  a60 := Try.isAgg159
  z60 := Try.sizeOf159
  v60 := Try.zeroValue159
  t61 := Try.underlying160
  a61 := Try.isAgg160
  z61 := Try.sizeOf160
  v61 := Try.zeroValue160
  t67 := Try.underlying167
  a67 := Try.isAgg167
  z67 := Try.sizeOf167
  v67 := Try.zeroValue167
  t69 := Try.underlying169
  a69 := Try.isAgg169
  z69 := Try.sizeOf169
  v69 := Try.zeroValue169
  t75 := Try.underlying178
  a75 := Try.isAgg178
  z75 := Try.sizeOf178
  v75 := Try.zeroValue178
  t79 := Try.underlying182
  a79 := Try.isAgg182
  z79 := Try.sizeOf182
  v79 := Try.zeroValue182
  t83 := Try.underlying187
  a83 := Try.isAgg187
  z83 := Try.sizeOf187
  v83 := Try.zeroValue187
  t84 := Try.underlying188
  a84 := Try.isAgg188
  z84 := Try.sizeOf188
  v84 := Try.zeroValue188 }
end Go.Proofs
namespace Go.Proofs.Ytcbjnfdhghhgeaa
set_option linter.unusedVariables false
set_option linter.unusedSimpArgs false
open Go.RowKit Go.Sort

theorem sortN_any (base : Nat) (zs : List Int) (g cap : Nat) (w : World) (hl : zs.length ≤ 1000000000000) (hown : w.ownsRow base 110 1 (.slice (some ⟨g, 0, none⟩) zs.length cap) zs.length (zs.map (Value.int .i64))) :
    Calls Try.prog 85 #[.slice (some ⟨g, 0, none⟩) zs.length cap] w fun e w' =>
      e = .returned (.tuple #[]) ∧ w'.ownsRow base 110 1 (.slice (some ⟨g, 0, none⟩) zs.length cap) zs.length ((sorted zs).map (Value.int .i64)) ∧ w.grownBy w' (some g) := by
  rcases hown.2 with ⟨h, _⟩ | ⟨g', cap', cur, hv, hb, hh, hn, hc, hs, ht⟩
  · cases h
  simp only [Value.slice.injEq, Option.some.injEq, Addr.mk.injEq] at hv
  obtain ⟨⟨rfl, _⟩, _, rfl⟩ := hv
  have hgl : g < w.heap.size := (Array.getElem?_eq_some_iff.1 hh).1
  rw [Nat.mul_one] at ht hs
  have hH : Holds (Value.int .i64) w g 0 zs.toArray := fun j hj => by
    simp only [List.size_toArray] at hj
    refine ⟨?_, by simp [World.frozen?, hh]⟩
    have h1 : cur[j]? = some (.int .i64 zs[j]) := by
      have h2 := congrArg (fun l => l[j]?) ht
      simp only [List.getElem?_take, if_pos hj, List.getElem?_map, List.getElem?_eq_getElem hj, Option.map_some, Array.getElem?_toList] at h2
      exact h2
    simp [World.cell?, hh, h1, hj]
  refine (AnyG.slices_Sort_int Try.laysNode g 0 cap zs w hH hgl (by omega)).mono ?_
  rintro e w' ⟨rfl, n, os, rfl⟩
  have hst : ∀ i, i < w.heap.size → i ≠ g → (grow (putRow (Value.int .i64) (Sort.ahead w n) g 0 (sorted zs).toArray) os).heap[i]? = w.heap[i]? := fun i hi hne => by
    simp only [grow, putRow, mapBlock, Sort.ahead]
    rw [Array.getElem?_append_left (by simpa using hi), Array.getElem?_modify, if_neg (fun e => hne e.symm)]
  have hsg : (grow (putRow (Value.int .i64) (Sort.ahead w n) g 0 (sorted zs).toArray) os).heap[g]? = some (.cells (putCells (Value.int .i64) 0 (sorted zs).toArray cur) 110 (0, 0)) := by
    simp only [grow, putRow, mapBlock, Sort.ahead]
    rw [Array.getElem?_append_left (by simpa using hgl), Array.getElem?_modify, if_pos rfl, hh]
    rfl
  refine ⟨rfl, ⟨by simp [sorted_length], .inr ⟨g, cap, _, rfl, hb, hsg, hn, hc, by simp [putCells, hs], ?_⟩⟩, ⟨rfl, rfl, rfl, by simp [grow, putRow, mapBlock, Sort.ahead], fun i hi hne => hst i hi (fun e => hne (by rw [e]))⟩⟩
  rw [Nat.mul_one, ← sorted_length zs]
  exact putCells_take (by rw [sorted_length]; omega)

end Go.Proofs.Ytcbjnfdhghhgeaa

/- Contract of unify's All: the run follows the functions. -/
namespace Go.Proofs.Ytcbjnfdhghhgeaa
set_option linter.unusedVariables false
set_option linter.unusedSimpArgs false
open Go.RowKit Go.Maps Go.Sort

def SBPost (x : Sb) (b : Bool) (k : Int) (w : World) (e : Ending) (w' : World) : Prop :=
  ∃ a c, e = .returned (.tuple #[.slice a x.length c, .bool b, .int .i64 k]) ∧ IsBs w'.heap.size w' x a c ∧ Below w.heap.size w w'
def excL : List (Int × Int) → Int
  | [] => 0
  | m :: ms => if excI m = 0 then excL ms else excI m
/-- The state with a new pair of terms. -/
def addP (s : St) (x y : T) : St := { s with syms := addN (addN s.syms x) y, stk := [(addI s.syms x, addI (addN s.syms x) y)] }
def st0 : St := { syms := [], n := 0, R := fun v => v, vars := [], stk := [] }
/-- What is known of the states behind each pair. -/
structure AllI (I : Nat → St → Nat → Prop) (as_ bs : List T) : Prop where
  start : ∃ m, I 0 st0 m
  hand : ∀ k, Handing (I k)
  add : ∀ k s m x y, I k s m → s.stk = [] → as_[k]? = some x → bs[k]? = some y → ∃ m', I (k + 1) (addP s x y) m'
  last : ∀ s m, I as_.length s m → s.stk = [] → GOk s.syms s.R ∧ (∀ z ∈ s.vars, 0 ≤ z ∧ z < 256) ∧ ∃ f r, mesF s.R f [] (sorted s.vars) s.syms (fun _ => none) = some r ∧ ∀ ms, r.1 = some ms → excL ms = 0 → ∃ f' u S', uniF s.R f' [] (sorted s.vars) r.2 = some (u, S')
def AllUPost (I : Nat → St → Nat → Prop) (as_ bs : List T) (w : World) (e : Ending) (w' : World) : Prop :=
  ((as_.length ≠ bs.length ∨ badL as_ = true ∨ badL bs = true) ∧ SBPost [] false 1 w e w') ∨
  ((as_.length = bs.length ∧ badL as_ = false ∧ badL bs = false) ∧
    (((∃ k s m p q rest, k < as_.length ∧ I (k + 1) s m ∧ s.stk = rest ++ [(p, q)] ∧ ustep s p q rest = none) ∧ SBPost [] false 0 w e w') ∨
     ∃ s m f r, I as_.length s m ∧ s.stk = [] ∧ mesF s.R f [] (sorted s.vars) s.syms (fun _ => none) = some r ∧
       ((r.1 = none ∧ SBPost [] false 0 w e w') ∨ ∃ ms, r.1 = some ms ∧ ((excL ms ≠ 0 ∧ SBPost [] false (excL ms) w e w') ∨ (excL ms = 0 ∧ ∃ f' u S', uniF s.R f' [] (sorted s.vars) r.2 = some (u, S') ∧ SBPost u true 0 w e w')))))

/-- An empty graph. -/
theorem isG_empty (w : World) (n₀ : Nat) (hn : n₀ ≤ w.heap.size) (L : Nat) : IsG w.heap.size L n₀ w.heap.size (w.alloc (.cells #[.slice none 0 0, .map none, .slice none 0 0] 108)) (.slice none 0 0) (.map none) (.slice none 0 0) [] 0 (fun v => v) [] :=
  ⟨heap_alloc_new w _, hn, Nat.le_refl _, ⟨[], World.ownsRow_nil _ _ _ _, trivial⟩, .inl ⟨rfl, rfl, fun _ => rfl⟩, World.ownsRow_nil _ _ _ _⟩

theorem IsG.sortVars {B L n₀ g : Nat} {W W' : World} {sv mv vv : Value} {syms : List Sy} {n : Nat} {R : Int → Int} {vars vars' : List Int} (h : IsG B L n₀ g W sv mv vv syms n R vars) (hrow : W'.ownsRow B 110 1 vv vars'.length (vars'.map (Value.int .i64))) (hg : W.grownBy W' vv.ownBlock) (hB : B ≤ W.heap.size) : IsG B L n₀ g W' sv mv vv syms n R vars' := by
  have hk : ∀ i, i < W.heap.size → vv.ownBlock ≠ some i → W'.heap[i]? = W.heap[i]? := fun i hi hn => hg.block i hi (fun e => hn e.symm)
  obtain ⟨xs, r1, r2⟩ := h.rows
  refine ⟨(hk g h.lt h.vv_ne).trans h.heap, h.low, h.base, ⟨xs, ownsRow_kept r1 (fun b hb => hk b (rowBlock r1 hb).2.1 (fun e => ?_)), r2.keep (fun b hb => hk b (by have := h.low; omega) (fun e => by have := (rowBlock h.vrow e).1; have := h.low; omega)) (fun b hb => ⟨hk b hb.lt hb.2.2.1, hb.2.2.1⟩)⟩, h.links.kept (fun M hM => hk M (h.links.map_block hM).2.1 (fun e => ?_)), hrow⟩
  · obtain ⟨_, _, c1, hc1⟩ := rowBlock r1 hb
    obtain ⟨_, _, c2, hc2⟩ := rowBlock h.vrow e
    rw [hc1] at hc2; simp at hc2
  · obtain ⟨_, _, es, cl, hc1⟩ := h.links.map_block hM
    obtain ⟨_, _, c2, hc2⟩ := rowBlock h.vrow e
    rw [hc1] at hc2; cases hc2
def AlI (I : Nat → St → Nat → Prop) (B g : Nat) (wL : World) (N : Nat) (i : Value) (wr : World) : Prop :=
  ∃ (k : Nat) (s : St) (m : Nat) (sv mv vv : Value), k ≤ N ∧ i = .int .i64 k ∧ I k s m ∧ s.stk = [] ∧ IsG B wr.heap.size B g wr sv mv vv s.syms s.n s.R s.vars ∧ Below B wL wr
theorem uni_bool {I : St → Nat → Prop} {B n₀ g : Nat} {sv mv vv : Value} {syms : List Sy} {n : Nat} {R : Int → Int} {vars : List Int} {L : Nat} {w : World} {e : Ending} {w' : World} (hG : IsG B L n₀ g w sv mv vv syms n R vars) (hB : B ≤ w.heap.size) (h : UniPost I B n₀ g sv mv vv w e w') : ∃ b, e = .returned (.bool b) ∧ UniPost I B n₀ g sv mv vv w (.returned (.bool b)) w' ∧ Below B w w' := by
  rcases h with ⟨rfl, h⟩ | ⟨rfl, h⟩
  · refine ⟨true, rfl, .inl ⟨rfl, h⟩, ?_⟩
    obtain ⟨s, m, sv', mv', vv', _, _, _, hst⟩ := h
    exact hst.below hB (fun i hi => hG.own_ge hi)
  · exact ⟨false, rfl, .inr ⟨rfl, h⟩, h.2⟩

set_option maxRecDepth 100000 in
set_option maxHeartbeats 8000000 in
theorem allU_any (I : Nat → St → Nat → Prop) (as_ bs : List T) (hI : (as_.length = bs.length ∧ badL as_ = false ∧ badL bs = false) → AllI I as_ bs) (has : ∀ t ∈ as_, t.size ≤ 1000000000000) (hbs : ∀ t ∈ bs, t.size ≤ 1000000000000) (hal : as_.length ≤ 10000) (hbl : bs.length ≤ 10000) (a : Option Addr) (c : Nat) (a' : Option Addr) (c' : Nat) (w : World) (hA : IsArgs w.heap.size w as_ a c) (hA' : IsArgs w.heap.size w bs a' c') :
    Calls Try.prog 54 #[.slice a as_.length c, .slice a' bs.length c'] w (AllUPost I as_ bs w) := by
  have LS := Lib.hid (show ∀ W, Below w.heap.size w W → IsArgs w.heap.size W as_ a c ∧ IsArgs w.heap.size W bs a' c' from fun W hW => ⟨hA.below hW, hA'.below hW⟩)
  have HAS := Lib.hid has
  have HBS := Lib.hid hbs
  have HI := Lib.hid hI
  have hlc : as_.length ≤ c ∧ c ≤ maxLen := ⟨hA.1, hA.2.1⟩
  have hlc' : bs.length ≤ c' ∧ c' ≤ maxLen := ⟨hA'.1, hA'.2.1⟩
  unfold maxLen at hlc hlc'
  obtain ⟨hl1, hl2⟩ := hlc
  obtain ⟨hl3, hl4⟩ := hlc'
  clear hA hA' has hbs hI
  by_cases hlen : as_.length = bs.length
  case neg =>
    have hd : ((as_.length : Int) == (bs.length : Int)) = false := by simpa using (fun e => hlen (by omega))
    have HP := Lib.hid (show AllUPost I as_ bs w (.returned (.tuple #[.slice none 0 0, .bool false, .int .i64 1])) w from .inl ⟨.inl hlen, none, 0, rfl, IsBs.nil _ _ _ (by simp [maxLen]), Below.refl _ _⟩)
    have hd2 : ¬ ((as_.length : Int) = (bs.length : Int)) := fun e => hlen (by omega)
    have hd3 : ¬ (as_.length = bs.length) := hlen
    clear hlen
    go_enter Try.func54, Try.ntmps54
    go_wp2
    refine bodyPost_ret (v := .tuple #[.slice none 0 0, .bool false, .int .i64 1]) (by simp [results, Try.results54, go_sem]) rfl ?_
    exact HP.out
  have HLEN := Lib.hid hlen
  rw [← hlen] at hl3 hbl ⊢
  clear hlen
  go_enter Try.func54, Try.ntmps54
  go_wp2_with fail
  have ls := LS.out w (Below.refl _ _)
  refine (contains_any as_ HAS.out w.heap.size a c w (Nat.le_refl _) ls.1).mono ?_
  clear ls
  rintro e w1 ⟨rfl, hb1⟩
  have HB1 := Lib.hid hb1
  clear hb1
  cases q1 : badL as_
  case true =>
    have HP := Lib.hid (show AllUPost I as_ bs w (.returned (.tuple #[.slice none 0 0, .bool false, .int .i64 1])) w1 from .inl ⟨.inr (.inl q1), none, 0, rfl, IsBs.nil _ _ _ (by simp [maxLen]), HB1.out⟩)
    clear q1
    go_wp2
    refine bodyPost_ret (v := .tuple #[.slice none 0 0, .bool false, .int .i64 1]) (by simp [results, Try.results54, go_sem]) rfl ?_
    exact HP.out
  have Q1 := Lib.hid q1
  clear q1
  go_wp2_with fail
  have ls := LS.out w1 HB1.out
  have CB := contains_any bs HBS.out w.heap.size a' c' w1 HB1.out.size ls.2
  rw [← HLEN.out] at CB
  refine CB.mono ?_
  clear ls CB
  rintro e w2 ⟨rfl, hb2⟩
  have HB2 := Lib.hid (HB1.out.trans (hb2.mono HB1.out.size))
  clear hb2
  cases q2 : badL bs
  case true =>
    have HP := Lib.hid (show AllUPost I as_ bs w (.returned (.tuple #[.slice none 0 0, .bool false, .int .i64 1])) w2 from .inl ⟨.inr (.inr q2), none, 0, rfl, IsBs.nil _ _ _ (by simp [maxLen]), HB2.out⟩)
    clear q2
    go_wp2
    refine bodyPost_ret (v := .tuple #[.slice none 0 0, .bool false, .int .i64 1]) (by simp [results, Try.results54, go_sem]) rfl ?_
    exact HP.out
  have HOK := Lib.hid (show as_.length = bs.length ∧ badL as_ = false ∧ badL bs = false from ⟨HLEN.out, Q1.out, q2⟩)
  have HAI := Lib.hid (HI.out HOK.out)
  clear q2
  -- the graph
  obtain ⟨w3, hw3⟩ : ∃ w3, w2.alloc (.cells #[.slice none 0 0, .map none, .slice none 0 0] 108) = w3 := ⟨_, rfl⟩
  obtain ⟨B, hBe⟩ : ∃ B, w2.heap.size = B := ⟨_, rfl⟩
  have hB3 : Below w.heap.size w w3 := by rw [← hw3]; exact HB2.out.alloc HB2.out.size _
  have hwB : w.heap.size ≤ B := by rw [← hBe]; exact HB2.out.size
  have hz3 : w3.heap.size = B + 1 := by rw [← hw3, ← hBe]; simp
  have hG3 : IsG B w3.heap.size B B w3 (.slice none 0 0) (.map none) (.slice none 0 0) [] 0 (fun v => v) [] := by
    rw [← hw3, ← hBe]
    exact isG_empty w2 w2.heap.size (Nat.le_refl _) _
  obtain ⟨m0, hm0⟩ := HAI.out.start
  have HST := Lib.hid (show AlI I B B w3 as_.length (.int .i64 ((0 : Nat) : Int)) w3 from ⟨0, st0, m0, _, _, _, Nat.zero_le _, rfl, hm0, rfl, hG3, Below.refl _ _⟩)
  have HB3 := Lib.hid hB3
  have HBE := Lib.hid hBe
  have hB3z : B ≤ w3.heap.size := by omega
  clear hG3 hm0 hB3 hz3 hBe
  go_wp2
  rw [HBE.out]
  go_loopw [29] (fun i wr => AlI I B B w3 as_.length i wr) (fun i _ => as_.length - (intOf i).toNat)
  case atStart => exact HST.out
  case round =>
    obtain ⟨k, s, m, sv, mv, vv, hk, rfl, hIs, hstk, hG, hBr⟩ := hrel
    have hfit := (HAI.out.hand k).1 s m hIs
    have hzr := hBr.size
    have hwr : Below w.heap.size w wr := HB3.out.trans (hBr.mono hwB)
    have hBz : B ≤ wr.heap.size := by omega
    by_cases hlt : k < as_.length
    · obtain ⟨ba, oa, x, ax, cx, rfl, hba, hx, hxw, ha0, ha1, hAx⟩ := (LS.out wr hwr).1.elem (i := k) hlt
      obtain ⟨bb, ob, y, ay, cy, rfl, hbb, hy, hyw, hb0, hb1, hAy⟩ := (LS.out wr hwr).2.elem (i := k) (by rw [← HLEN.out]; exact hlt)
      obtain ⟨m', hI'⟩ := HAI.out.add k s m x y hIs hstk hx hy
      have hfit' := (HAI.out.hand (k + 1)).1 _ m' hI'
      have hsl := hfit.len
      have hk0 : (0 : Int) ≤ (k : Int) := Int.natCast_nonneg _
      have hk1 : (k : Int) < (as_.length : Int) := by omega
      have hbaw : ba < B := by omega
      have hbbw : bb < B := by omega
      have hown : ∀ i, Own4 B sv mv vv i → B ≤ i := fun i hi => hG.own_ge hi
      have CN1 := Lib.hid (node_any B wr.heap.size B B sv mv vv s.syms s.n s.R s.vars x ax cx wr.drew hBz (hG.kept (fun _ _ => rfl) hBz) (by omega) hxw ((hAx.mono hwB).below (show Below B wr wr.drew from (Below.refl _ _).drew)))
      have CN2 := Lib.hid (show ∀ w5 sv5, IsG B wr.heap.size B B w5 sv5 mv vv (addN s.syms x) s.n s.R s.vars → Below B wr w5 → Calls Try.prog 84 #[.pointer (some ⟨B, 0, none⟩), tm y.head ay y.args.length cy] w5 (NodePost B wr.heap.size B B sv5 mv vv (addN s.syms x) s.n s.R s.vars y w5) from fun w5 sv5 h1 h2 =>
        node_any B wr.heap.size B B sv5 mv vv (addN s.syms x) s.n s.R s.vars y ay cy w5 (Nat.le_trans hBz h2.size) h1 (by have : (addN s.syms x).length ≤ s.syms.length + 1 := (by unfold addN; split; exact Nat.le_succ _; exact Nat.le_of_eq (by simp)); omega) hyw ((hAy.mono hwB).below h2))
      have CU := Lib.hid (show ∀ w6 sv6, IsG B w6.heap.size B B w6 sv6 mv vv (addN (addN s.syms x) y) s.n s.R s.vars → B ≤ w6.heap.size → Calls Try.prog 83 #[.pointer (some ⟨B, 0, none⟩), .agg #[.int .i64 (addI s.syms x), .int .i64 (addI (addN s.syms x) y)]] w6 (UniPost (I (k + 1)) B B B sv6 mv vv w6) from fun w6 sv6 h1 h2 =>
        unite_any (I (k + 1)) (HAI.out.hand (k + 1)) B B B sv6 mv vv (addP s x y) m' _ _ hI' rfl w6 h2 h1)
      have KP := Lib.hid (show ∀ W, Below B wr W → W.cell? ⟨ba, oa + k * 2, none⟩ = some (.int .i64 x.head) ∧ W.cell? ⟨ba, oa + k * 2 + 1, none⟩ = some (.slice ax x.args.length cx) ∧ W.cell? ⟨bb, ob + k * 2, none⟩ = some (.int .i64 y.head) ∧ W.cell? ⟨bb, ob + k * 2 + 1, none⟩ = some (.slice ay y.args.length cy) ∧ Below B wr W from fun W hW =>
        ⟨(hW.cell (p := ⟨ba, _, none⟩) hbaw).trans ha0, (hW.cell (p := ⟨ba, _, none⟩) hbaw).trans ha1, (hW.cell (p := ⟨bb, _, none⟩) hbbw).trans hb0, (hW.cell (p := ⟨bb, _, none⟩) hbbw).trans hb1, hW⟩)
      have HWR := Lib.hid hwr
      have HBR := Lib.hid hBr
      have HOWN := Lib.hid hown
      clear hIs hstk hG hBr hwr hAx hAy hx hy hI' hfit hfit' hown
      go_wp2
      go_region_law (first
          | (go_simp; go_at_call 84; refine (CN2.out w5 sv5 hG5 hB5).mono ?_; rintro e w6 ⟨rfl, sv6, hG6, hS6⟩; have hB6 : Below B wr w6 := hB5.trans (hS6.below (Nat.le_trans hBz hB5.size) (fun i hi => hG5.own_ge hi)))
          | (go_simp; go_at_call 84; refine CN1.out.mono ?_; rintro e w5 ⟨rfl, sv5, hG5, hS5⟩; have h05 := hS5.below (B := B) hBz HOWN.out; have hB5 : Below B wr w5 := ⟨h05.os, h05.tape, h05.output, h05.size, h05.block⟩; obtain ⟨_, _, hy5, hz5, _⟩ := KP.out w5 hB5)
          | (go_simp; go_at_call 83; refine (CU.out w6 sv6 (hG6.mono hB6.size) (Nat.le_trans hBz hB6.size)).mono ?_; intro e w7 hu; obtain ⟨ub, rfl, hu2, hbu⟩ := uni_bool hG6 (Nat.le_trans hBz hB6.size) hu; have hB7 : Below B wr w7 := hB6.trans hbu))
      all_goals
        cases ub
        · have hu3 : ∃ s m p q rest, I (k + 1) s m ∧ s.stk = rest ++ [(p, q)] ∧ ustep s p q rest = none := by
            rcases hu2 with ⟨h, _⟩ | ⟨_, h, _⟩
            · simp at h
            · exact h
          obtain ⟨s2, m2, p2, q2, rest2, h1, h2, h3⟩ := hu3
          have HP := Lib.hid (show AllUPost I as_ bs w (.returned (.tuple #[.slice none 0 0, .bool false, .int .i64 0])) w7 from .inr ⟨HOK.out, .inl ⟨⟨k, s2, m2, p2, q2, rest2, hlt, h1, h2, h3⟩, none, 0, rfl, IsBs.nil _ _ _ (by simp [maxLen]), HWR.out.trans (hB7.mono hwB)⟩⟩)
          clear h1 h2 h3 hu2 hu hbu hB7 hG6 hS6 hG5 hS5 hB5 hB6 h05
          go_wp2
          refine bodyPost_ret (v := .tuple #[.slice none 0 0, .bool false, .int .i64 0]) (by simp [results, Try.results54, go_sem]) rfl ?_
          exact HP.out
        · have hu3 : ∃ (s : St) (m : Nat) (sv' mv' vv' : Value), I (k + 1) s m ∧ s.stk = [] ∧ IsG B w7.heap.size B B w7 sv' mv' vv' s.syms s.n s.R s.vars := by
            rcases hu2 with ⟨_, s2, m2, sv2, mv2, vv2, h1, h2, h3, _⟩ | ⟨h, _⟩
            · exact ⟨s2, m2, sv2, mv2, vv2, h1, h2, h3⟩
            · simp at h
          have HU := Lib.hid hu3
          have HB7 := Lib.hid (HBR.out.trans (hB7.mono (Nat.le_refl _)))
          clear hu3 hu2 hu hbu hB7 hG6 hS6 hG5 hS5 hB5 hB6 h05
          go_wp2
          go_roundw
          case rel =>
            obtain ⟨s2, m2, sv2, mv2, vv2, h1, h2, h3⟩ := HU.out
            exact ⟨k + 1, s2, m2, sv2, mv2, vv2, by omega, by go_num, h1, h2, h3, HB7.out⟩
          case measure => simp [intOf]; omega
    · obtain rfl : k = as_.length := by omega
      obtain ⟨hok, hvv, f, r, hmes, huni⟩ := HAI.out.last s m hIs hstk
      have HRES := Lib.hid (show ∀ e w', ((r.1 = none ∧ SBPost [] false 0 w e w') ∨ ∃ ms, r.1 = some ms ∧ ((excL ms ≠ 0 ∧ SBPost [] false (excL ms) w e w') ∨ (excL ms = 0 ∧ ∃ f' u S', uniF s.R f' [] (sorted s.vars) r.2 = some (u, S') ∧ SBPost u true 0 w e w'))) → AllUPost I as_ bs w e w' from fun e w' h => .inr ⟨HOK.out, .inr ⟨s, m, f, r, hIs, hstk, hmes, h⟩⟩)
      obtain ⟨va, vc, hva⟩ : ∃ va vc, vv = .slice va s.vars.length vc := by
        rcases hG.vrow.2 with ⟨h, h0⟩ | ⟨g', cap', cur, h, _⟩
        · exact ⟨none, 0, by rw [h, h0]⟩
        · exact ⟨_, cap', h⟩
      subst hva
      have g2 : wr.cell? ⟨B, 2, none⟩ = some (.slice va s.vars.length vc) := by simp [World.cell?, hG.heap]
      have hvl := hfit.vl
      have hcnt := hfit.cnt
      have CS := Lib.hid (show Calls Try.prog 85 #[.slice va s.vars.length vc] wr (fun e w' => e = .returned (.tuple #[]) ∧ IsG B w'.heap.size B B w' sv mv (.slice va s.vars.length vc) s.syms s.n s.R (sorted s.vars) ∧ Below B wr w') from by
        by_cases hz : s.vars.length = 0
        · have hnil : s.vars = [] := List.eq_nil_of_length_eq_zero hz
          rw [hnil] at hG ⊢
          refine (AnyG.slices_Sort_int_none Try.laysNode va vc wr).mono ?_
          rintro e w' ⟨rfl, rfl⟩
          exact ⟨rfl, by simpa [sorted] using hG, Below.refl _ _⟩
        · have hv := hG.vrow
          obtain ⟨q, hq⟩ : ∃ q, s.vars.length = q + 1 := ⟨s.vars.length - 1, by omega⟩
          obtain ⟨gb, cap, hgb⟩ := ownsRow_succ (hq ▸ hv)
          rw [← hq] at hgb
          simp only [Value.slice.injEq] at hgb
          obtain ⟨rfl, _, rfl⟩ := hgb
          refine (sortN_any B s.vars gb vc wr (by omega) hv).mono ?_
          rintro e w' ⟨rfl, hrow, hgr⟩
          refine ⟨rfl, (hG.sortVars (by simpa [sorted_length] using hrow) hgr hBz).mono hgr.size, (Below.refl B wr).grown hgr hBz (fun q hq => ?_)⟩
          cases hq
          exact (rowBlock hv rfl).1)
      have HOKS := Lib.hid hok
      have HMES := Lib.hid hmes
      have HUNI := Lib.hid huni
      have HVV := Lib.hid (show ∀ z ∈ sorted s.vars, 0 ≤ z ∧ z < 256 from fun z hz => hvv z (by unfold sorted at hz; exact List.mem_mergeSort.1 hz))
      have HSL := Lib.hid (show (sorted s.vars).length ≤ 100000 from by rw [sorted_length]; exact hvl)
      have HWR := Lib.hid hwr
      clear hG hok hvv hmes huni hIs hstk hBr hwr hfit
      go_wp2_with fail
      refine CS.out.mono ?_
      rintro e w8 ⟨rfl, hG8, hB8⟩
      have hz8 := hB8.size
      have CM := Lib.hid (measures_any B B B sv mv (.slice va s.vars.length vc) s.n s.R (sorted s.vars) hcnt HSL.out s.syms f r HMES.out HVV.out w8 (by omega) hG8 HOKS.out)
      have HB8 := Lib.hid hB8
      have HOWN8 := Lib.hid (show ∀ i, Own4 B sv mv (.slice va s.vars.length vc) i → B ≤ i from fun i hi => hG8.own_ge hi)
      clear hG8 hB8
      go_wp2_with fail
      refine CM.out.mono ?_
      rintro e w9 ⟨⟨v9, rfl, hv9, hnone9⟩, sv9, hG9, hok9, hst9⟩
      have hB9 : Below B wr w9 := HB8.out.trans (hst9.below (by omega) HOWN8.out)
      have hz9 := hB9.size
      have HW9 := Lib.hid (show Below w.heap.size w w9 from HWR.out.trans (hB9.mono hwB))
      cases hr1 : r.1 with
      | none =>
        have hv := hnone9 hr1
        subst hv
        rw [Option.isSome_none]
        have HP := Lib.hid (HRES.out (.returned (.tuple #[.slice none 0 0, .bool false, .int .i64 0])) w9 (.inl ⟨hr1, none, 0, rfl, IsBs.nil _ _ _ (by simp [maxLen]), HW9.out⟩))
        clear hv9 hnone9 hG9 hok9 hst9 hB9 hr1
        go_wp2
        refine bodyPost_ret (v := .tuple #[.slice none 0 0, .bool false, .int .i64 0]) (by simp [results, Try.results54, go_sem]) rfl ?_
        exact HP.out
      | some ms =>
        obtain ⟨hrow9, hokm⟩ := hv9 ms hr1
        rw [Option.isSome_some]
        obtain ⟨ma, mc, hma⟩ : ∃ ma mc, v9 = .slice ma ms.length mc ∧ ms.length ≤ mc ∧ mc ≤ maxLen := by
          rcases hrow9.2 with ⟨h, h0⟩ | ⟨g', cap', cur, h, _, _, h1, h2, _⟩
          · exact ⟨none, 0, by rw [h, h0], by omega, by simp [maxLen]⟩
          · exact ⟨_, cap', h, h1, h2⟩
        obtain ⟨rfl, hmc1, hmc2⟩ := hma
        unfold maxLen at hmc2
        have HROW := Lib.hid hrow9
        have HOKM := Lib.hid hokm
        have HG9 := Lib.hid hG9
        have HOK9 := Lib.hid hok9
        have HR1 := Lib.hid hr1
        have hB9z : B ≤ w9.heap.size := by omega
        clear hv9 hnone9 hrow9 hokm hG9 hok9 hst9 hB9 hr1
        go_wp2
        go_loopw [57] (fun i wr' => ∃ k : Nat, k ≤ ms.length ∧ i = .int .i64 k ∧ excL ms = excL (ms.drop k) ∧ Below w9.heap.size w9 wr') (fun i _ => ms.length - (intOf i).toNat)
        case atStart => exact ⟨0, Nat.zero_le _, rfl, by simp, Below.refl _ _⟩
        case round =>
          obtain ⟨j, hj, rfl, hex, hBj⟩ := hrel
          have hzj := hBj.size
          by_cases hjl : j < ms.length
          · obtain ⟨p, hp⟩ : ∃ p, ms[j]? = some p := ⟨_, List.getElem?_eq_getElem hjl⟩
            obtain ⟨hkl, hke⟩ := List.getElem?_eq_some_iff.1 hp
            rw [List.drop_eq_getElem_cons hkl, hke, excL] at hex
            obtain ⟨p1, p2⟩ := p
            obtain ⟨hq1, hq2⟩ := pairVals_get hp
            obtain ⟨mb, hmb⟩ : ∃ mb, ma = some ⟨mb, 0, none⟩ := by
              rcases HROW.out.2 with ⟨h, h0⟩ | ⟨g', cap', cur, h, _⟩
              · omega
              · simp only [Value.slice.injEq] at h
                exact ⟨g', h.1⟩
            subst hmb
            have e1 := HROW.out.cells (g := mb) rfl _ _ hq1
            have e2 := HROW.out.cells (g := mb) rfl _ _ hq2
            rw [addr_add, Nat.zero_add] at e1 e2
            have hmbl : mb < w9.heap.size := (rowBlock HROW.out rfl).2.1
            have e1' := (hBj.cell (p := ⟨mb, _, none⟩) hmbl).trans e1
            have e2' := (hBj.cell (p := ⟨mb, _, none⟩) hmbl).trans e2
            simp only at e1' e2'
            have hj0 : (0 : Int) ≤ (j : Int) := Int.natCast_nonneg _
            have hj1 : (j : Int) < (ms.length : Int) := by omega
            have CX := Lib.hid (show ∀ W, Calls Try.prog 87 #[.agg #[.int .i64 p1, .int .i64 p2]] W fun e w' => e = .returned (.int .i64 (excI (p1, p2))) ∧ Below W.heap.size W w' from fun W => excess_any (p1, p2) W)
            have HEX := Lib.hid hex
            have HBJ := Lib.hid hBj
            have hmbw : mb < wr.heap.size := by omega
            clear hex hBj hp hq1 hq2 e1 e2
            go_wp2_with fail
            refine (CX.out _).mono ?_
            rintro e wc ⟨rfl, hbc⟩
            have HBC := Lib.hid (HBJ.out.trans ((((Below.refl wr.heap.size wr).alloc (Nat.le_refl _) (.cells #[.int .i64 p1, .int .i64 p2] 119)).trans (hbc.mono (by simp))).mono hzj))
            clear hbc
            by_cases hx0 : excI (p1, p2) = 0
            · have H0 := Lib.hid (show excL ms = excL (ms.drop (j + 1)) from by rw [HEX.out, if_pos hx0])
              rw [hx0]
              clear hx0
              go_wp2
              go_roundw
              case rel => exact ⟨j + 1, by omega, by go_num, H0.out, HBC.out⟩
              case measure => simp [intOf]; omega
            · obtain ⟨ek, hek⟩ : ∃ ek, excI (p1, p2) = ek := ⟨_, rfl⟩
              have hxl : excL ms = ek := by rw [HEX.out, if_neg hx0, hek]
              rw [hek] at hx0 ⊢
              have hef : (ek == 0) = false := by simpa using hx0
              have HP := Lib.hid (HRES.out (.returned (.tuple #[.slice none 0 0, .bool false, .int .i64 ek])) wc (.inr ⟨ms, HR1.out, .inl ⟨by rw [hxl]; exact hx0, by rw [hxl]; exact ⟨none, 0, rfl, IsBs.nil _ _ _ (by simp [maxLen]), HW9.out.trans (HBC.out.mono HW9.out.size)⟩⟩⟩))
              clear hx0 hxl hek
              go_wp2
              refine bodyPost_ret (v := .tuple #[.slice none 0 0, .bool false, .int .i64 ek]) (by simp [results, Try.results54, go_sem]) rfl ?_
              exact HP.out
          · obtain rfl : j = ms.length := by omega
            have hex0 : excL ms = 0 := by rw [hex, List.drop_of_length_le (Nat.le_refl _)]; rfl
            obtain ⟨f', u, S', hu⟩ := HUNI.out ms HR1.out hex0
            have CF := Lib.hid (unifier_any B B B sv9 mv (.slice va s.vars.length vc) s.n s.R (sorted s.vars) hcnt HSL.out r.2 f' u S' hu HVV.out wr (by omega) ((HG9.out.later hBj hB9z).mono hzj) HOK9.out)
            have FN := Lib.hid (show ∀ a c w', IsBs w'.heap.size w' u a c → Below B wr w' → AllUPost I as_ bs w (.returned (.tuple #[.slice a u.length c, .bool true, .int .i64 0])) w' from fun a c w' h1 h2 => HRES.out _ _ (.inr ⟨ms, HR1.out, .inr ⟨hex0, f', u, S', hu, a, c, rfl, h1, (HW9.out.trans (hBj.mono HW9.out.size)).trans (h2.mono hwB)⟩⟩))
            clear hex hBj hex0 hu
            go_wp2_with fail
            refine CF.out.mono ?_
            rintro e wd ⟨ad, cd, rfl, hId, hbd⟩
            have HP := Lib.hid (FN.out ad cd wd hId hbd)
            clear hId hbd
            go_wp2
            refine bodyPost_ret (v := .tuple #[.slice ad u.length cd, .bool true, .int .i64 0]) (by simp [results, Try.results54, go_sem]) rfl ?_
            exact HP.out

end Go.Proofs.Ytcbjnfdhghhgeaa

/- Contract of unify's Mgu, by that of All. -/
namespace Go.Proofs.Ytcbjnfdhghhgeaa
set_option linter.unusedVariables false
set_option linter.unusedSimpArgs false
open Go.RowKit Go.Maps Go.Sort

theorem args_one {w : World} {n₀ : Nat} {x : T} {a : Option Addr} {c : Nat} (hn : n₀ ≤ w.heap.size) (hxw : (Lit.int .i64 x.head).wf = true) (hA : IsArgs n₀ w x.args a c) : IsArgs (w.alloc (tmCells x.head a x.args.length c)).heap.size (w.alloc (tmCells x.head a x.args.length c)) [x] (some ⟨w.heap.size, 0, none⟩) 1 := by
  have hb : Below n₀ w (w.alloc (tmCells x.head a x.args.length c)) := (Below.refl _ _).alloc hn _
  have h0 : (w.alloc (tmCells x.head a x.args.length c)).cell? ⟨w.heap.size, 0, none⟩ = some (.int .i64 x.head) := by simp [go_sem]
  have h1 : (w.alloc (tmCells x.head a x.args.length c)).cell? ⟨w.heap.size, 1, none⟩ = some (.slice a x.args.length c) := by simp [go_sem]
  have h2 := (hA.below hb).mono (show n₀ ≤ (w.alloc (tmCells x.head a x.args.length c)).heap.size by simp; omega)
  exact ⟨by simp, by simp [maxLen], .inr ⟨_, 0, rfl, by simp, isT_iff.2 ⟨hxw, h0, a, c, h1, h2⟩, trivial⟩⟩

set_option maxRecDepth 100000 in
set_option maxHeartbeats 2000000 in
theorem mgu_any (I : Nat → St → Nat → Prop) (x y : T) (hI : (badL [x] = false ∧ badL [y] = false) → AllI I [x] [y]) (hx : x.size ≤ 1000000000000) (hy : y.size ≤ 1000000000000) (n₀ : Nat) (a : Option Addr) (c : Nat) (a' : Option Addr) (c' : Nat) (w : World) (hn : n₀ ≤ w.heap.size) (hxw : (Lit.int .i64 x.head).wf = true) (hyw : (Lit.int .i64 y.head).wf = true) (hA : IsArgs n₀ w x.args a c) (hA' : IsArgs n₀ w y.args a' c') :
    Calls Try.prog 22 #[tm x.head a x.args.length c, tm y.head a' y.args.length c'] w fun e w' => ∃ w0, Below w.heap.size w w0 ∧ AllUPost I [x] [y] w0 e w' := by
  obtain ⟨w2, hw2⟩ : ∃ w2, (w.alloc (tmCells x.head a x.args.length c)).alloc (tmCells y.head a' y.args.length c') = w2 := ⟨_, rfl⟩
  have hb2 : Below w.heap.size w w2 := by rw [← hw2]; exact ((Below.refl _ w).alloc (Nat.le_refl _) _).alloc (by simp) _
  have hz2 : w2.heap.size = w.heap.size + 2 := by rw [← hw2]; simp
  have k0 : w2.cell? ⟨w.heap.size, 0, none⟩ = some (.int .i64 x.head) := by rw [← hw2]; simp [go_sem]
  have k1 : w2.cell? ⟨w.heap.size, 1, none⟩ = some (.slice a x.args.length c) := by rw [← hw2]; simp [go_sem]
  have k2 : w2.cell? ⟨w.heap.size + 1, 0, none⟩ = some (.int .i64 y.head) := by rw [← hw2]; simp [go_sem]
  have k3 : w2.cell? ⟨w.heap.size + 1, 1, none⟩ = some (.slice a' y.args.length c') := by rw [← hw2]; simp [go_sem]
  have h3 := args_one (w := w2) (by omega) hxw (hA.below (hb2.mono hn))
  have hb3 : Below w2.heap.size w2 (w2.alloc (tmCells x.head a x.args.length c)) := (Below.refl _ _).alloc (Nat.le_refl _) _
  have h4 := args_one (w := w2.alloc (tmCells x.head a x.args.length c)) (n₀ := n₀) (by simp; omega) hyw (hA'.below ((hb2.trans (hb3.mono hb2.size)).mono hn))
  have hb4 : Below (w2.alloc (tmCells x.head a x.args.length c)).heap.size (w2.alloc (tmCells x.head a x.args.length c)) ((w2.alloc (tmCells x.head a x.args.length c)).alloc (tmCells y.head a' y.args.length c')) := (Below.refl _ _).alloc (Nat.le_refl _) _
  have CA := Lib.hid (allU_any I [x] [y] (fun h => hI h.2) (by simpa using hx) (by simpa using hy) (by simp) (by simp) (some ⟨w2.heap.size, 0, none⟩) 1 (some ⟨(w2.alloc (tmCells x.head a x.args.length c)).heap.size, 0, none⟩) 1 _ ((h3.below hb4).mono hb4.size) h4)
  have HB := Lib.hid (show Below w.heap.size w ((w2.alloc (tmCells x.head a x.args.length c)).alloc (tmCells y.head a' y.args.length c')) from (hb2.trans (hb3.mono hb2.size)).trans (hb4.mono (by simp; omega)))
  have hwl : w.heap.size < w2.heap.size := by omega
  have hwl2 : w.heap.size + 1 < w2.heap.size := by omega
  clear h3 h4 hb2 hb3 hb4 hA hA' hz2 hI
  simp only [show (w2.alloc (tmCells x.head a x.args.length c)).heap.size = w2.heap.size + 1 from by simp] at CA
  go_enter Try.func22, Try.ntmps22
  go_wp2_with fail
  refine CA.out.mono ?_
  intro e w5 hp
  have hp2 : ∃ s b k, SBPost s b k ((w2.alloc (tmCells x.head a x.args.length c)).alloc (tmCells y.head a' y.args.length c')) e w5 := by
    rcases hp with ⟨_, h⟩ | ⟨_, ⟨_, h⟩ | ⟨_, _, _, _, _, _, _, ⟨_, h⟩ | ⟨_, _, ⟨_, h⟩ | ⟨_, _, _, _, _, h⟩⟩⟩⟩ <;> exact ⟨_, _, _, h⟩
  obtain ⟨s5, b5, k5, a5, c5, rfl, hI5, hb5⟩ := hp2
  have HP := Lib.hid (show ∃ w0, Below w.heap.size w w0 ∧ AllUPost I [x] [y] w0 (.returned (.tuple #[.slice a5 s5.length c5, .bool b5, .int .i64 k5])) w5 from ⟨_, HB.out, hp⟩)
  clear hp hI5 hb5
  go_wp2
  refine bodyPost_ret (v := .tuple #[.slice a5 s5.length c5, .bool b5, .int .i64 k5]) (by simp [results, Try.results22, go_sem]) rfl ?_
  exact HP.out

end Go.Proofs.Ytcbjnfdhghhgeaa
