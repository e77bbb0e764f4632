/- Contracts of slices.IndexFunc, ContainsFunc, Clone and Delete at literals. -/
import Derived.Test.YtbdabdjpgmnejaaGreatQDb
import Derived.Test.YtbdabdjpgmnejaaGreatQBh
import Derived.Lib.SliceRun
import Derived.Laws.OwnMore
import Derived.Deep.RegionLaw
import Derived.Shelf.RegionOpenPlain
namespace Go.Proofs.YtbdabdjpgmnejaaGreat
set_option linter.unusedVariables false
set_option linter.unusedSimpArgs false
open Go.RowKit

/-! ### IndexFunc and ContainsFunc -/
/-- What is asked of a predicate on literals. -/
def PredL (f : Nat) (lb : Array Value) (p : Lt3 → Bool) (P : List LV) (n₀ : Nat) (w : World) : Prop :=
  ∀ (W : World) (x : LV), x ∈ P → Below w.heap.size w W → IsLv n₀ W x → Calls Tryz.prog f (#[x.v] ++ lb) W fun e w' => e = .returned (.bool (p x.t3)) ∧ Below W.heap.size W w'
/-- The place of the first one. -/
def IdxR (p : Lt3 → Bool) (P : List LV) (j : Int) : Prop :=
  (j = -1 ∧ ∀ y ∈ P, p y.t3 = false) ∨ ∃ (k : Nat) (x : LV), j = k ∧ P[k]? = some x ∧ p x.t3 = true ∧ ∀ (l : Nat) (y : LV), l < k → P[l]? = some y → p y.t3 = false
theorem IdxR.any {p : Lt3 → Bool} {P : List LV} {j : Int} (h : IdxR p P j) : decide (0 ≤ j) = (t3s P).any p := by
  rcases h with ⟨rfl, h⟩ | ⟨k, x, rfl, h1, h2, _⟩
  · symm
    rw [show decide ((0 : Int) ≤ -1) = false from rfl, List.any_eq_false]
    intro y hy
    obtain ⟨z, hz, rfl⟩ := List.mem_map.1 hy
    rw [h z hz]; decide
  · symm
    rw [show decide ((0 : Int) ≤ (k : Int)) = true from by simp, List.any_eq_true]
    exact ⟨x.t3, List.mem_map.2 ⟨x, List.mem_of_getElem? h1, rfl⟩, h2⟩
def IdxL (p : Lt3 → Bool) (P : List LV) (w : World) (i : Value) (wr : World) : Prop := ∃ k : Nat, k ≤ P.length ∧ i = .int .i64 k ∧ (∀ (l : Nat) (y : LV), l < k → P[l]? = some y → p y.t3 = false) ∧ Below w.heap.size w wr

set_option maxRecDepth 100000 in
set_option maxHeartbeats 2000000 in
theorem indexL_any (p : Lt3 → Bool) (f : Nat) (lb : Array Value) (eg : ∀ args w, (callFunc f args).run Tryz.prog w = .ok (.enter f args) w) (P : List LV) (n₀ : Nat) (a : Option Addr) (c : Nat) (w : World) (hn : n₀ ≤ w.heap.size) (hA : IsCl n₀ w P a c)
    (hp : PredL f lb p P n₀ w) :
    Calls Tryz.prog 93 #[.slice a P.length c, .func (.func f) #[] lb] w fun e w' => ∃ j : Int, e = .returned (.int .i64 j) ∧ IdxR p P j ∧ Below w.heap.size w w' := by
  have hlc : P.length ≤ c ∧ c ≤ maxLen := ⟨hA.1, hA.2.1⟩
  unfold maxLen at hlc
  obtain ⟨hl1, hl2⟩ := hlc
  have HA := Lib.hid hA
  have HP := Lib.hid hp
  clear hA hp
  go_enter Tryz.func93, Tryz.ntmps93
  go_wp2
  go_loopw [8] (fun i wr => IdxL p P w i wr) (fun i _ => P.length - (intOf i).toNat)
  case atStart => exact ⟨0, Nat.zero_le _, rfl, fun l y hl => by omega, Below.refl _ _⟩
  case round =>
    obtain ⟨k, hk, rfl, hbd, hB⟩ := hrel
    have HBD := Lib.hid hbd
    have HB := Lib.hid hB
    have hbz := hB.size
    clear hbd hB
    by_cases hlt : k < P.length
    · obtain ⟨b, o, x, rfl, hbn, hx, ⟨a0, a1, a2, a3, a4⟩, hxl⟩ := (HA.out.below (HB.out.mono hn)).elem (i := k) hlt
      have hk0 : (0 : Int) ≤ (k : Int) := Int.natCast_nonneg _
      have hk1 : (k : Int) < (P.length : Int) := by omega
      have hbw : b < wr.heap.size := by omega
      have hcall := HP.out wr x (List.mem_of_getElem? hx) HB.out hxl
      have HX := Lib.hid hx
      clear hx hxl
      cases hd : p x.t3 with
      | false =>
        rw [hd] at hcall
        have H0 := Lib.hid (show ∀ (l : Nat) (y : LV), l < k + 1 → P[l]? = some y → p y.t3 = false from fun l y hl hy => by
          rcases Nat.lt_or_ge l k with h | h
          · exact HBD.out l y h hy
          · obtain rfl : l = k := by omega
            rw [HX.out] at hy
            cases hy
            exact hd)
        clear hd
        go_wp2_with (go_at_fn f; refine hcall.mono ?_; rintro e w2 ⟨rfl, hb2⟩)
        have HB2 := Lib.hid (HB.out.trans (hb2.mono hbz))
        clear hb2
        go_roundw
        case rel => exact ⟨k + 1, by omega, by go_num, H0.out, HB2.out⟩
        case measure => simp [intOf]; omega
      | true =>
        rw [hd] at hcall
        have H0 := Lib.hid (show IdxR p P (k : Int) from .inr ⟨k, x, rfl, HX.out, hd, HBD.out⟩)
        clear hd
        go_wp2_with (go_at_fn f; refine hcall.mono ?_; rintro e w2 ⟨rfl, hb2⟩)
        have HB2 := Lib.hid (HB.out.trans (hb2.mono hbz))
        clear hb2
        go_ret
        exact ⟨(k : Int), rfl, H0.out, HB2.out⟩
    · obtain rfl : k = P.length := by omega
      have H0 := Lib.hid (show IdxR p P (-1) from .inl ⟨rfl, fun y hy => by
        obtain ⟨l, hl, e⟩ := List.getElem_of_mem hy
        exact HBD.out l y hl (by rw [List.getElem?_eq_getElem hl, e])⟩)
      go_wp2
      go_ret
      exact ⟨-1, rfl, H0.out, HB.out⟩

theorem containsL_any (p : Lt3 → Bool) (f : Nat) (lb : Array Value) (eg : ∀ args w, (callFunc f args).run Tryz.prog w = .ok (.enter f args) w) (P : List LV) (n₀ : Nat) (a : Option Addr) (c : Nat) (w : World) (hn : n₀ ≤ w.heap.size) (hA : IsCl n₀ w P a c)
    (hp : PredL f lb p P n₀ w) :
    Calls Tryz.prog 73 #[.slice a P.length c, .func (.func f) #[] lb] w fun e w' => e = .returned (.bool ((t3s P).any p)) ∧ Below w.heap.size w w' := by
  have CI := Lib.hid (indexL_any p f lb eg P n₀ a c w hn hA hp)
  clear hA hp eg
  go_enter Tryz.func73, Tryz.ntmps73
  go_wp2_with fail
  refine CI.out.mono ?_
  rintro e w2 ⟨j, rfl, hj, hb⟩
  have HJ := Lib.hid hj.any
  have HB := Lib.hid hb
  clear hj hb
  go_wp2
  go_ret
  exact ⟨by rw [← HJ.out]; rfl, HB.out⟩

/-! ### Clone -/
/-- A row of literals of one's own, in new memory. -/
def OlPost (ok : Nat → Prop) (P : List LV) (w : World) (e : Ending) (w' : World) : Prop := ∃ v, e = .returned v ∧ OL ok w.heap.size v P w' ∧ Below w.heap.size w w'

set_option maxRecDepth 100000 in
set_option maxHeartbeats 1000000 in
theorem cloneL_any (P : List LV) (hl : P.length ≤ 1000000) (n₀ : Nat) (a : Option Addr) (c : Nat) (w : World) (hn : n₀ ≤ w.heap.size) (hA : IsCl n₀ w P a c) :
    Calls Tryz.prog 81 #[.slice a P.length c] w (OlPost (· < n₀) P w) := by
  have q22 : ∀ (w : World) (a : Option Addr) (n c n' c' : Nat), (binOp .eql 23 (.slice a n c) (.slice none n' c')).run Tryz.prog w = .ok (.bool a.isNone) w := fun w a n c n' c' => Lib.run_eql_slice_nil w _ _ a n c n' c' Tryz.underlying23
  have hel : ∀ x ∈ P, IsLvp (· < n₀) w x := fun x hx => by
    obtain ⟨l, hl', e⟩ := List.getElem_of_mem hx
    obtain ⟨_, _, y, _, _, hy, _, hyl⟩ := hA.elem hl'
    rw [List.getElem?_eq_getElem hl', e] at hy
    cases hy
    exact isLvp_lt.2 hyl
  cases a with
  | none =>
    have h0 : P = [] := by rcases hA.2.2 with h | ⟨_, _, h, _⟩; exact h; cases h
    subst h0
    clear hel hA
    go_enter Tryz.func81, Tryz.ntmps81
    go_wp2
    go_ret
    exact ⟨_, rfl, OL.nil _ _ _, Below.refl _ _⟩
  | some ad =>
    have hS : SrcL w P (some ad) c := SrcL.of_cl hA (fun h => by cases h)
    have HS := Lib.hid hS
    have HEL := Lib.hid hel
    have hmade : (w.alloc (.cells #[] 36)).ownsRow w.heap.size 36 5 (.slice (some ⟨w.heap.size, 0, none⟩) 0 0) 0 [] := World.ownsRow_made w #[] 0 (Nat.le_refl _) (by simp [maxLen]) rfl
    have HO0 := Lib.hid (show OL (· < n₀) w.heap.size (.slice (some ⟨w.heap.size, 0, none⟩) 0 0) [] (w.alloc (.cells #[] 36)) from ⟨hmade, by simp⟩)
    clear hS hel hmade hA
    go_enter Tryz.func81, Tryz.ntmps81
    go_wp2_with (at_builtin; refine stopHere ?_)
    refine Lib.hid ?_
    have hsrc : SrcL (w.alloc (.cells #[] 36)) P (some ad) c := by
      refine ⟨fun h => (by cases h), fun ad' e j u hj => ?_⟩
      have h := HS.out.2 ad' e j u hj
      exact (World.cell?_of_block (Below.heap_alloc w _ _ (World.block_lt_of_cell? w _ h))).trans h
    refine wpList_append_ls rfl _ _ rfl (· < n₀) w.heap.size (.slice (some ⟨w.heap.size, 0, none⟩) 0 0) [] rfl HO0.out (by simp) P (some ad) c rfl hsrc (by simp; omega) ?_
    clear hsrc
    intro v' w2 hown hgr _
    have hb2 : Below w.heap.size w w2 := ((Below.refl _ w).alloc (Nat.le_refl _) _).grown hgr (by simp) (by intro k hk; simp [Value.ownBlock] at hk; omega)
    have HB := Lib.hid hb2
    have HR := Lib.hid (show OL (· < n₀) w.heap.size v' P w2 from ⟨by simpa using hown, fun x hx => (HEL.out x hx).keep (fun b hb => hb2.block b (by have : b < n₀ := hb; omega)) (fun _ x => x)⟩)
    clear hown hgr hb2
    go_wp2
    go_ret
    exact ⟨_, rfl, HR.out, HB.out⟩

end Go.Proofs.YtbdabdjpgmnejaaGreat
