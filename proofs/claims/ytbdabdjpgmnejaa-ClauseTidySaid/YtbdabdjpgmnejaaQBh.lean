/- QBh: joined of Ixl, Kt, Lsa, Lso. -/
import Derived.Test.YtbdabdjpgmnejaaQBg
import Derived.Test.YtbdabdjpgmnejaaQBf
import Derived.Lib.SliceRun
import Derived.Laws.OwnMore
import Derived.Deep.RegionLaw
import Derived.Shelf.RegionOpenPlain
import Derived.Test.YtbdabdjpgmnejaaQBc
/- Contracts of slices.IndexFunc, ContainsFunc, Clone and Delete at literals. -/
namespace Go.Proofs.Ytbdabdjpgmnejaa
set_option linter.unusedVariables false
set_option linter.unusedSimpArgs false
open Go.RowKit
/-! ### IndexFunc and ContainsFunc -/
/-- What is asked of a predicate on literals. -/
def PredL (f : Nat) (lb : Array Value) (p : Lt3 → Bool) (P : List LV) (n₀ : Nat) (w : World) : Prop :=
  ∀ (W : World) (x : LV), x ∈ P → Below w.heap.size w W → IsLv n₀ W x → Calls Try.prog f (#[x.v] ++ lb) W fun e w' => e = .returned (.bool (p x.t3)) ∧ Below W.heap.size W w'
/-- The place of the first one. -/
def IdxR (p : Lt3 → Bool) (P : List LV) (j : Int) : Prop :=
  (j = -1 ∧ ∀ y ∈ P, p y.t3 = false) ∨ ∃ (k : Nat) (x : LV), j = k ∧ P[k]? = some x ∧ p x.t3 = true ∧ ∀ (l : Nat) (y : LV), l < k → P[l]? = some y → p y.t3 = false
theorem IdxR.any {p : Lt3 → Bool} {P : List LV} {j : Int} (h : IdxR p P j) : decide (0 ≤ j) = (t3s P).any p := by
  rcases h with ⟨rfl, h⟩ | ⟨k, x, rfl, h1, h2, _⟩
  · symm
    rw [show decide ((0 : Int) ≤ -1) = false from rfl, List.any_eq_false]
    intro y hy
    obtain ⟨z, hz, rfl⟩ := List.mem_map.1 hy
    rw [h z hz]; decide
  · symm
    rw [show decide ((0 : Int) ≤ (k : Int)) = true from by simp, List.any_eq_true]
    exact ⟨x.t3, List.mem_map.2 ⟨x, List.mem_of_getElem? h1, rfl⟩, h2⟩
def IdxL (p : Lt3 → Bool) (P : List LV) (w : World) (i : Value) (wr : World) : Prop := ∃ k : Nat, k ≤ P.length ∧ i = .int .i64 k ∧ (∀ (l : Nat) (y : LV), l < k → P[l]? = some y → p y.t3 = false) ∧ Below w.heap.size w wr
set_option maxRecDepth 100000 in
set_option maxHeartbeats 2000000 in
theorem indexL_any (p : Lt3 → Bool) (f : Nat) (lb : Array Value) (eg : ∀ args w, (callFunc f args).run Try.prog w = .ok (.enter f args) w) (P : List LV) (n₀ : Nat) (a : Option Addr) (c : Nat) (w : World) (hn : n₀ ≤ w.heap.size) (hA : IsCl n₀ w P a c)
    (hp : PredL f lb p P n₀ w) :
    Calls Try.prog 45 #[.slice a P.length c, .func (.func f) #[] lb] w fun e w' => ∃ j : Int, e = .returned (.int .i64 j) ∧ IdxR p P j ∧ Below w.heap.size w w' := by
  have hlc : P.length ≤ c ∧ c ≤ maxLen := ⟨hA.1, hA.2.1⟩
  unfold maxLen at hlc
  obtain ⟨hl1, hl2⟩ := hlc
  have HA := Lib.hid hA
  have HP := Lib.hid hp
  clear hA hp
  go_enter Try.func45, Try.ntmps45
  go_wp2
  go_loopw [8] (fun i wr => IdxL p P w i wr) (fun i _ => P.length - (intOf i).toNat)
  case atStart => exact ⟨0, Nat.zero_le _, rfl, fun l y hl => by omega, Below.refl _ _⟩
  case round =>
    obtain ⟨k, hk, rfl, hbd, hB⟩ := hrel
    have HBD := Lib.hid hbd
    have HB := Lib.hid hB
    have hbz := hB.size
    clear hbd hB
    by_cases hlt : k < P.length
    · obtain ⟨b, o, x, rfl, hbn, hx, ⟨a0, a1, a2, a3, a4⟩, hxl⟩ := (HA.out.below (HB.out.mono hn)).elem (i := k) hlt
      have hk0 : (0 : Int) ≤ (k : Int) := Int.natCast_nonneg _
      have hk1 : (k : Int) < (P.length : Int) := by omega
      have hbw : b < wr.heap.size := by omega
      have hcall := HP.out wr x (List.mem_of_getElem? hx) HB.out hxl
      have HX := Lib.hid hx
      clear hx hxl
      cases hd : p x.t3 with
      | false =>
        rw [hd] at hcall
        have H0 := Lib.hid (show ∀ (l : Nat) (y : LV), l < k + 1 → P[l]? = some y → p y.t3 = false from fun l y hl hy => by
          rcases Nat.lt_or_ge l k with h | h
          · exact HBD.out l y h hy
          · obtain rfl : l = k := by omega
            rw [HX.out] at hy
            cases hy
            exact hd)
        clear hd
        go_wp2_with (go_at_fn f; refine hcall.mono ?_; rintro e w2 ⟨rfl, hb2⟩)
        have HB2 := Lib.hid (HB.out.trans (hb2.mono hbz))
        clear hb2
        go_roundw
        case rel => exact ⟨k + 1, by omega, by go_num, H0.out, HB2.out⟩
        case measure => simp [intOf]; omega
      | true =>
        rw [hd] at hcall
        have H0 := Lib.hid (show IdxR p P (k : Int) from .inr ⟨k, x, rfl, HX.out, hd, HBD.out⟩)
        clear hd
        go_wp2_with (go_at_fn f; refine hcall.mono ?_; rintro e w2 ⟨rfl, hb2⟩)
        have HB2 := Lib.hid (HB.out.trans (hb2.mono hbz))
        clear hb2
        go_ret
        exact ⟨(k : Int), rfl, H0.out, HB2.out⟩
    · obtain rfl : k = P.length := by omega
      have H0 := Lib.hid (show IdxR p P (-1) from .inl ⟨rfl, fun y hy => by
        obtain ⟨l, hl, e⟩ := List.getElem_of_mem hy
        exact HBD.out l y hl (by rw [List.getElem?_eq_getElem hl, e])⟩)
      go_wp2
      go_ret
      exact ⟨-1, rfl, H0.out, HB.out⟩
theorem containsL_any (p : Lt3 → Bool) (f : Nat) (lb : Array Value) (eg : ∀ args w, (callFunc f args).run Try.prog w = .ok (.enter f args) w) (P : List LV) (n₀ : Nat) (a : Option Addr) (c : Nat) (w : World) (hn : n₀ ≤ w.heap.size) (hA : IsCl n₀ w P a c)
    (hp : PredL f lb p P n₀ w) :
    Calls Try.prog 30 #[.slice a P.length c, .func (.func f) #[] lb] w fun e w' => e = .returned (.bool ((t3s P).any p)) ∧ Below w.heap.size w w' := by
  have CI := Lib.hid (indexL_any p f lb eg P n₀ a c w hn hA hp)
  clear hA hp eg
  go_enter Try.func30, Try.ntmps30
  go_wp2_with fail
  refine CI.out.mono ?_
  rintro e w2 ⟨j, rfl, hj, hb⟩
  have HJ := Lib.hid hj.any
  have HB := Lib.hid hb
  clear hj hb
  go_wp2
  go_ret
  exact ⟨by rw [← HJ.out]; rfl, HB.out⟩
/-! ### Clone -/
/-- A row of literals of one's own, in new memory. -/
def OlPost (ok : Nat → Prop) (P : List LV) (w : World) (e : Ending) (w' : World) : Prop := ∃ v, e = .returned v ∧ OL ok w.heap.size v P w' ∧ Below w.heap.size w w'
set_option maxRecDepth 100000 in
set_option maxHeartbeats 1000000 in
theorem cloneL_any (P : List LV) (hl : P.length ≤ 1000000) (n₀ : Nat) (a : Option Addr) (c : Nat) (w : World) (hn : n₀ ≤ w.heap.size) (hA : IsCl n₀ w P a c) :
    Calls Try.prog 55 #[.slice a P.length c] w (OlPost (· < n₀) P w) := by
  have q22 : ∀ (w : World) (a : Option Addr) (n c n' c' : Nat), (binOp .eql 22 (.slice a n c) (.slice none n' c')).run Try.prog w = .ok (.bool a.isNone) w := fun w a n c n' c' => Lib.run_eql_slice_nil w _ _ a n c n' c' Try.underlying22
  have hel : ∀ x ∈ P, IsLvp (· < n₀) w x := fun x hx => by
    obtain ⟨l, hl', e⟩ := List.getElem_of_mem hx
    obtain ⟨_, _, y, _, _, hy, _, hyl⟩ := hA.elem hl'
    rw [List.getElem?_eq_getElem hl', e] at hy
    cases hy
    exact isLvp_lt.2 hyl
  cases a with
  | none =>
    have h0 : P = [] := by rcases hA.2.2 with h | ⟨_, _, h, _⟩; exact h; cases h
    subst h0
    clear hel hA
    go_enter Try.func55, Try.ntmps55
    go_wp2
    go_ret
    exact ⟨_, rfl, OL.nil _ _ _, Below.refl _ _⟩
  | some ad =>
    have hS : SrcL w P (some ad) c := SrcL.of_cl hA (fun h => by cases h)
    have HS := Lib.hid hS
    have HEL := Lib.hid hel
    have hmade : (w.alloc (.cells #[] 30)).ownsRow w.heap.size 30 5 (.slice (some ⟨w.heap.size, 0, none⟩) 0 0) 0 [] := World.ownsRow_made w #[] 0 (Nat.le_refl _) (by simp [maxLen]) rfl
    have HO0 := Lib.hid (show OL (· < n₀) w.heap.size (.slice (some ⟨w.heap.size, 0, none⟩) 0 0) [] (w.alloc (.cells #[] 30)) from ⟨hmade, by simp⟩)
    clear hS hel hmade hA
    go_enter Try.func55, Try.ntmps55
    go_wp2_with (at_builtin; refine stopHere ?_)
    refine Lib.hid ?_
    have hsrc : SrcL (w.alloc (.cells #[] 30)) P (some ad) c := by
      refine ⟨fun h => (by cases h), fun ad' e j u hj => ?_⟩
      have h := HS.out.2 ad' e j u hj
      exact (World.cell?_of_block (Below.heap_alloc w _ _ (World.block_lt_of_cell? w _ h))).trans h
    refine wpList_append_ls rfl _ _ rfl (· < n₀) w.heap.size (.slice (some ⟨w.heap.size, 0, none⟩) 0 0) [] rfl HO0.out (by simp) P (some ad) c rfl hsrc (by simp; omega) ?_
    clear hsrc
    intro v' w2 hown hgr _
    have hb2 : Below w.heap.size w w2 := ((Below.refl _ w).alloc (Nat.le_refl _) _).grown hgr (by simp) (by intro k hk; simp [Value.ownBlock] at hk; omega)
    have HB := Lib.hid hb2
    have HR := Lib.hid (show OL (· < n₀) w.heap.size v' P w2 from ⟨by simpa using hown, fun x hx => (HEL.out x hx).keep (fun b hb => hb2.block b (by have : b < n₀ := hb; omega)) (fun _ x => x)⟩)
    clear hown hgr hb2
    go_wp2
    go_ret
    exact ⟨_, rfl, HR.out, HB.out⟩
end Go.Proofs.Ytbdabdjpgmnejaa

/- Clauses tidied; plain facts. -/
namespace Go.Proofs.Ytbdabdjpgmnejaa
set_option linter.unusedVariables false
set_option linter.unusedSimpArgs false
open Go.RowKit
/-- Says a literal nothing? -/
def voidL (x : Lt3) : Bool := x.neg && sameB x.l x.r
def dropL (out : List Lt3) (x : Lt3) : Bool := voidL x || out.any (fun y => sameLB y x)
def tidS (out : List Lt3) (x : Lt3) : List Lt3 := if dropL out x then out else out ++ [x]
def tidy (c : List Lt3) : List Lt3 := c.foldl tidS []
theorem tidy_snoc {c : List Lt3} {k : Nat} {x : Lt3} (h : c[k]? = some x) : tidy (c.take (k + 1)) = tidS (tidy (c.take k)) x := by
  unfold tidy
  rw [List.take_add_one, h, List.foldl_append]; rfl
theorem tidS_pre (out : List Lt3) (x : Lt3) : ∃ r, tidS out x = out ++ r := by
  unfold tidS
  split
  · exact ⟨[], by simp⟩
  · exact ⟨[x], rfl⟩
theorem fold_pre : ∀ (c out : List Lt3), ∃ r, c.foldl tidS out = out ++ r
  | [], out => ⟨[], by simp⟩
  | x :: c, out => by
    obtain ⟨r, hr⟩ := tidS_pre out x
    obtain ⟨s, hs⟩ := fold_pre c (tidS out x)
    exact ⟨r ++ s, by rw [List.foldl_cons, hs, hr, List.append_assoc]⟩
theorem tidy_pre (c : List Lt3) (k : Nat) : ∃ r, tidy c = tidy (c.take k) ++ r := by
  obtain ⟨r, hr⟩ := fold_pre (c.drop k) (tidy (c.take k))
  refine ⟨r, ?_⟩
  rw [← hr]
  unfold tidy
  rw [← List.foldl_append, List.take_append_drop]
/-- No two the same, none that says nothing. -/
structure TidyOk (out : List Lt3) : Prop where
  dif : ∀ (i j : Nat) (x y : Lt3), i < j → out[i]? = some x → out[j]? = some y → sameLB x y = false
  say : ∀ x ∈ out, voidL x = false
theorem TidyOk.step {out : List Lt3} (h : TidyOk out) (x : Lt3) : TidyOk (tidS out x) := by
  unfold tidS
  by_cases hd : dropL out x = true
  · rw [if_pos hd]; exact h
  · rw [if_neg hd]
    unfold dropL at hd
    rw [Bool.not_eq_true, Bool.or_eq_false_iff, List.any_eq_false] at hd
    obtain ⟨h1, h2⟩ := hd
    refine ⟨fun i j u v hij hu hv => ?_, fun u hu => ?_⟩
    · by_cases hj : j < out.length
      · rw [List.getElem?_append_left hj] at hv
        rw [List.getElem?_append_left (by omega)] at hu
        exact h.dif i j u v hij hu hv
      · have hjl : j = out.length := by
          have := (List.getElem?_eq_some_iff.1 hv).1
          simp at this; omega
        subst hjl
        rw [List.getElem?_append_left (by omega)] at hu
        simp at hv
        subst hv
        have := h2 u (List.mem_of_getElem? hu)
        simpa using this
    · rcases List.mem_append.1 hu with hu | hu
      · exact h.say u hu
      · simp at hu; subst hu; exact h1
theorem fold_ok : ∀ (c : List Lt3) {out : List Lt3}, TidyOk out → TidyOk (c.foldl tidS out)
  | [], _, h => h
  | x :: c, out, h => by rw [List.foldl_cons]; exact fold_ok c (h.step x)
theorem tidy_ok (c : List Lt3) : TidyOk (tidy c) := fold_ok c ⟨fun i j x y _ h => by simp at h, by simp⟩
theorem fold_sub : ∀ (c out : List Lt3), ∀ x ∈ c.foldl tidS out, x ∈ out ∨ x ∈ c
  | [], _, x, h => .inl h
  | y :: c, out, x, h => by
    rw [List.foldl_cons] at h
    rcases fold_sub c _ x h with h | h
    · unfold tidS at h
      split at h
      · exact .inl h
      · rcases List.mem_append.1 h with h | h
        · exact .inl h
        · simp at h; subst h; exact .inr (List.mem_cons_self ..)
    · exact .inr (List.mem_cons_of_mem _ h)
theorem tidy_sub {c : List Lt3} {x : Lt3} (h : x ∈ tidy c) : x ∈ c := by
  rcases fold_sub c [] x h with h | h
  · cases h
  · exact h
/-- What is tidy stays. -/
theorem tidy_self {c : List Lt3} (h : TidyOk c) : tidy c = c := by
  suffices ∀ k, k ≤ c.length → tidy (c.take k) = c.take k by
    have := this c.length (Nat.le_refl _)
    rwa [List.take_length] at this
  intro k
  induction k with
  | zero => intro _; rfl
  | succ k ih =>
    intro hk
    have hx : c[k]? = some c[k] := List.getElem?_eq_getElem (by omega)
    rw [tidy_snoc hx, ih (by omega), List.take_add_one, hx]
    unfold tidS
    rw [if_neg]
    · rfl
    · unfold dropL
      rw [Bool.not_eq_true, Bool.or_eq_false_iff, List.any_eq_false]
      refine ⟨h.say _ (List.mem_of_getElem? hx), fun y hy => ?_⟩
      obtain ⟨i, hi⟩ := List.getElem?_of_mem hy
      have hik : i < k := by
        have := (List.getElem?_eq_some_iff.1 hi).1
        simp at this; omega
      rw [List.getElem?_take_of_lt hik] at hi
      simpa using h.dif i k y _ hik hi hx
theorem tidy_twice (c : List Lt3) : tidy (tidy c) = tidy c := tidy_self (tidy_ok c)
/-- One that is kept stands at its place; one that is dropped doesn't. -/
theorem tidy_kept {c : List Lt3} {k : Nat} {x : Lt3} (hx : c[k]? = some x) (h : dropL (tidy (c.take k)) x = false) : (tidy c)[(tidy (c.take k)).length]? = some x ∧ tidy (c.take (k + 1)) = tidy (c.take k) ++ [x] := by
  have e : tidy (c.take (k + 1)) = tidy (c.take k) ++ [x] := by
    rw [tidy_snoc hx]; unfold tidS; rw [if_neg (by rw [h]; decide)]
  refine ⟨?_, e⟩
  obtain ⟨r, hr⟩ := tidy_pre c (k + 1)
  rw [hr, e, List.append_assoc, List.getElem?_append_right (Nat.le_refl _)]
  simp
theorem tidy_gone {c : List Lt3} {k : Nat} {x : Lt3} (hx : c[k]? = some x) (h : dropL (tidy (c.take k)) x = true) : (tidy c)[(tidy (c.take k)).length]? ≠ some x ∧ tidy (c.take (k + 1)) = tidy (c.take k) := by
  have e : tidy (c.take (k + 1)) = tidy (c.take k) := by
    rw [tidy_snoc hx]; unfold tidS; rw [if_pos h]
  refine ⟨fun hh => ?_, e⟩
  have ok := tidy_ok c
  unfold dropL at h
  rw [Bool.or_eq_true, List.any_eq_true] at h
  rcases h with h | ⟨y, hy, h⟩
  · rw [ok.say x (List.mem_of_getElem? hh)] at h; cases h
  · obtain ⟨i, hi⟩ := List.getElem?_of_mem hy
    have hil := (List.getElem?_eq_some_iff.1 hi).1
    obtain ⟨r, hr⟩ := tidy_pre c k
    have hi' : (tidy c)[i]? = some y := by rw [hr, List.getElem?_append_left hil]; exact hi
    rw [ok.dif i _ y x hil hi' hh] at h
    cases h
end Go.Proofs.Ytbdabdjpgmnejaa

/- Contracts of lit's sameSides, Same and Trivial. -/
namespace Go.Proofs.Ytbdabdjpgmnejaa
set_option linter.unusedVariables false
set_option linter.unusedSimpArgs false
open Go.RowKit
set_option maxRecDepth 100000 in
set_option maxHeartbeats 2000000 in
theorem sameSides_any (x y : LV) (hx : x.sz) (n₀ : Nat) (w : World) (hn : n₀ ≤ w.heap.size) (hX : IsLv n₀ w x) (hY : IsLv n₀ w y) :
    Calls Try.prog 18 #[x.v, y.v] w fun e w' => e = .returned (.bool (sidB x.l x.r y.l y.r)) ∧ Below w.heap.size w w' := by
  have d0 := (((((Later.below (Below.refl _ w)).and (later_lv (hY.mono hn))).and (later_lv (hX.mono hn))).pushL (Below.refl _ _) x).pushL (Below.refl _ _) y)
  simp only [heap_alloc_size] at d0
  have D := Lib.hid d0
  have S1 := fun (W : World) (hX : IsLv W.heap.size W x) (hY : IsLv W.heap.size W y) => same_any x.l y.l hx.1 W.heap.size x.pa x.ca y.pa y.ca W (Nat.le_refl _) hX.lw hY.lw hX.la hY.la
  have S2 := fun (W : World) (hX : IsLv W.heap.size W x) (hY : IsLv W.heap.size W y) => same_any x.r y.r hx.2 W.heap.size x.pb x.cb y.pb y.cb W (Nat.le_refl _) hX.rw hY.rw hX.ra hY.ra
  have S3 := fun (W : World) (hX : IsLv W.heap.size W x) (hY : IsLv W.heap.size W y) => same_any x.l y.r hx.1 W.heap.size x.pa x.ca y.pb y.cb W (Nat.le_refl _) hX.lw hY.rw hX.la hY.ra
  have S4 := fun (W : World) (hX : IsLv W.heap.size W x) (hY : IsLv W.heap.size W y) => same_any x.r y.l hx.2 W.heap.size x.pb x.cb y.pa y.ca W (Nat.le_refl _) hX.rw hY.lw hX.ra hY.la
  unfold sidB
  generalize sameB x.l y.l = s1 at S1 ⊢
  generalize sameB x.r y.r = s2 at S2 ⊢
  generalize sameB x.l y.r = s3 at S3 ⊢
  generalize sameB x.r y.l = s4 at S4 ⊢
  have C1 := Lib.hid S1
  have C2 := Lib.hid S2
  have C3 := Lib.hid S3
  have C4 := Lib.hid S4
  clear S1 S2 S3 S4 d0 hX hY
  go_enter Try.func18, Try.ntmps18
  go_wp2_with fail
  generalize (w.alloc x.obj).alloc y.obj = w1 at D ⊢
  generalize hb0 : w.heap.size = b0 at D ⊢
  have HB0 := Lib.hid hb0
  clear hb0
  refine (C1.out w1 D.out.now.2.2.1 D.out.now.2.2.2.1).mono ?_
  rintro e w2 ⟨rfl, hb⟩
  have D2 := Lib.hid (D.out.mv hb)
  clear hb D C1
  obtain ⟨⟨y0, y1, y2, y3, y4⟩, ⟨x0, x1, x2, x3, x4⟩, _⟩ := D2.out.now
  cases s1 with
  | true =>
    go_wp2_with fail
    refine (C2.out w2 D2.out.now.2.2.1 D2.out.now.2.2.2.1).mono ?_
    clear y0 y1 y2 y3 y4 x0 x1 x2 x3 x4
    rintro e w3 ⟨rfl, hb⟩
    have D3 := Lib.hid (D2.out.mv hb)
    clear hb D2 C2
    cases s2 with
    | true =>
      have HQ := Lib.hid D3.out.now.2.2.2.2
      go_wp2
      go_ret
      exact ⟨rfl, by rw [HB0.out]; exact HQ.out⟩
    | false =>
      obtain ⟨⟨y0, y1, y2, y3, y4⟩, ⟨x0, x1, x2, x3, x4⟩, _⟩ := D3.out.now
      go_wp2_with fail
      refine (C3.out w3 D3.out.now.2.2.1 D3.out.now.2.2.2.1).mono ?_
      clear y0 y1 y2 y3 y4 x0 x1 x2 x3 x4
      rintro e w4 ⟨rfl, hb⟩
      have D4 := Lib.hid (D3.out.mv hb)
      clear hb D3 C3
      cases s3 with
      | false =>
        have HQ := Lib.hid D4.out.now.2.2.2.2
        go_wp2
        go_ret
        exact ⟨rfl, by rw [HB0.out]; exact HQ.out⟩
      | true =>
        obtain ⟨⟨y0, y1, y2, y3, y4⟩, ⟨x0, x1, x2, x3, x4⟩, _⟩ := D4.out.now
        go_wp2_with fail
        refine (C4.out w4 D4.out.now.2.2.1 D4.out.now.2.2.2.1).mono ?_
        clear y0 y1 y2 y3 y4 x0 x1 x2 x3 x4
        rintro e w5 ⟨rfl, hb⟩
        have HQ := Lib.hid (D4.out.mv hb).now.2.2.2.2
        clear hb D4 C4
        go_wp2
        go_ret
        exact ⟨by cases s4 <;> rfl, by rw [HB0.out]; exact HQ.out⟩
  | false =>
    go_wp2_with fail
    refine (C3.out w2 D2.out.now.2.2.1 D2.out.now.2.2.2.1).mono ?_
    clear y0 y1 y2 y3 y4 x0 x1 x2 x3 x4
    rintro e w4 ⟨rfl, hb⟩
    have D4 := Lib.hid (D2.out.mv hb)
    clear hb D2 C3
    cases s3 with
    | false =>
      have HQ := Lib.hid D4.out.now.2.2.2.2
      go_wp2
      go_ret
      exact ⟨rfl, by rw [HB0.out]; exact HQ.out⟩
    | true =>
      obtain ⟨⟨y0, y1, y2, y3, y4⟩, ⟨x0, x1, x2, x3, x4⟩, _⟩ := D4.out.now
      go_wp2_with fail
      refine (C4.out w4 D4.out.now.2.2.1 D4.out.now.2.2.2.1).mono ?_
      clear y0 y1 y2 y3 y4 x0 x1 x2 x3 x4
      rintro e w5 ⟨rfl, hb⟩
      have HQ := Lib.hid (D4.out.mv hb).now.2.2.2.2
      clear hb D4 C4
      go_wp2
      go_ret
      exact ⟨by cases s4 <;> rfl, by rw [HB0.out]; exact HQ.out⟩
set_option maxRecDepth 100000 in
set_option maxHeartbeats 2000000 in
theorem litSame_any (x y : LV) (hx : x.sz) (n₀ : Nat) (w : World) (hn : n₀ ≤ w.heap.size) (hX : IsLv n₀ w x) (hY : IsLv n₀ w y) :
    Calls Try.prog 8 #[x.v, y.v] w fun e w' => e = .returned (.bool (samL x.n x.l x.r y.n y.l y.r)) ∧ Below w.heap.size w w' := by
  have hF : Below w.heap.size w ((w.alloc x.obj).alloc y.obj) := ((Below.refl _ w).alloc (Nat.le_refl _) _).alloc (by simp) _
  have S := sameSides_any x y hx n₀ ((w.alloc x.obj).alloc y.obj) (by simp; omega) (hX.below (hF.mono hn)) (hY.below (hF.mono hn))
  unfold samL
  generalize sidB x.l x.r y.l y.r = s at S ⊢
  have C := Lib.hid S
  have HF := Lib.hid hF
  clear S hX hY hF
  obtain ⟨p, hp⟩ : ∃ p, (x.n == y.n) = p := ⟨_, rfl⟩
  rw [hp]
  go_enter Try.func8, Try.ntmps8
  cases p with
  | false =>
    go_wp2
    go_ret
    exact ⟨rfl, HF.out⟩
  | true =>
    go_wp2_with fail
    refine C.out.mono ?_
    rintro e w2 ⟨rfl, hb⟩
    have HB := Lib.hid (HF.out.trans (hb.mono HF.out.size))
    clear hb
    go_wp2
    go_ret
    exact ⟨by cases s <;> rfl, HB.out⟩
set_option maxRecDepth 100000 in
set_option maxHeartbeats 2000000 in
theorem litTrivial_any (x : LV) (hx : x.sz) (n₀ : Nat) (w : World) (hn : n₀ ≤ w.heap.size) (hX : IsLv n₀ w x) :
    Calls Try.prog 7 #[x.v] w fun e w' => e = .returned (.bool (sameB x.l x.r)) ∧ Below w.heap.size w w' := by
  have hF : Below w.heap.size w (w.alloc x.obj) := (Below.refl _ w).alloc (Nat.le_refl _) _
  have hX1 := hX.below (hF.mono hn)
  have C := Lib.hid (same_any x.l x.r hx.1 n₀ x.pa x.ca x.pb x.cb (w.alloc x.obj) (by simp; omega) hX.lw hX.rw hX1.la hX1.ra)
  have HF := Lib.hid hF
  clear hX hF hX1
  go_enter Try.func7, Try.ntmps7
  go_wp2_with fail
  refine C.out.mono ?_
  rintro e w2 ⟨rfl, hb⟩
  have HB := Lib.hid (HF.out.trans (hb.mono HF.out.size))
  clear hb
  go_wp2
  go_ret
  exact ⟨rfl, HB.out⟩
end Go.Proofs.Ytbdabdjpgmnejaa

/- Contract of lit's Opposite. -/
namespace Go.Proofs.Ytbdabdjpgmnejaa
set_option linter.unusedVariables false
set_option linter.unusedSimpArgs false
open Go.RowKit
set_option maxRecDepth 100000 in
set_option maxHeartbeats 2000000 in
theorem litOpposite_any (x y : LV) (hx : x.sz) (n₀ : Nat) (w : World) (hn : n₀ ≤ w.heap.size) (hX : IsLv n₀ w x) (hY : IsLv n₀ w y) :
    Calls Try.prog 44 #[x.v, y.v] w fun e w' => e = .returned (.bool (oppL x.n x.l x.r y.n y.l y.r)) ∧ Below w.heap.size w w' := by
  have hF : Below w.heap.size w ((w.alloc x.obj).alloc y.obj) := ((Below.refl _ w).alloc (Nat.le_refl _) _).alloc (by simp) _
  have S := sameSides_any x y hx n₀ ((w.alloc x.obj).alloc y.obj) (by simp; omega) (hX.below (hF.mono hn)) (hY.below (hF.mono hn))
  unfold oppL
  generalize sidB x.l x.r y.l y.r = s at S ⊢
  have C := Lib.hid S
  have HF := Lib.hid hF
  clear S hX hY hF
  clear hx hn
  obtain ⟨xn, xl, xr, xpa, xca, xpb, xcb⟩ := x
  obtain ⟨yn, yl, yr, ypa, yca, ypb, ycb⟩ := y
  go_enter Try.func44, Try.ntmps44
  rcases xn with _ | _ <;> rcases yn with _ | _
  · go_wp2
    go_ret
    exact ⟨rfl, HF.out⟩
  · go_wp2_with fail
    refine C.out.mono ?_
    rintro e w2 ⟨rfl, hb⟩
    have HB := Lib.hid (HF.out.trans (hb.mono HF.out.size))
    clear hb
    go_wp2
    go_ret
    exact ⟨by cases s <;> rfl, HB.out⟩
  · go_wp2_with fail
    refine C.out.mono ?_
    rintro e w2 ⟨rfl, hb⟩
    have HB := Lib.hid (HF.out.trans (hb.mono HF.out.size))
    clear hb
    go_wp2
    go_ret
    exact ⟨by cases s <;> rfl, HB.out⟩
  · go_wp2
    go_ret
    exact ⟨rfl, HF.out⟩
end Go.Proofs.Ytbdabdjpgmnejaa
