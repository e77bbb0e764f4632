/- QBa: joined of Check, Sz0. -/
import Derived.Test.YtleohdddaadbeaaGreatSub
/- Check: joined of Sz, Check. -/
/- The depth of terms, and small lemmas for loops over the iterator of subterms. -/
namespace Go.Proofs.YtleohdddaadbeaaGreat
set_option linter.unusedVariables false
set_option linter.unusedSimpArgs false
open Go.RowKit Go.Shelf
attribute [local go_sem] Oper.semAt_some

theorem fold2 (t : Array Value) (p q : Tmp) (u v : Value) : (#[p, q].zip #[u, v]).foldl (fun t (x : Tmp × Value) => t.setIfInBounds x.1 x.2) t = (t.setIfInBounds p u).setIfInBounds q v := by simp

mutual
def T.depth : T → Nat
  | .node _ ts => T.depths ts + 1
def T.depths : List T → Nat
  | [] => 0
  | t :: ts => max t.depth (T.depths ts)
end
theorem T.depth_pos (t : T) : 1 ≤ t.depth := by cases t; simp [T.depth]
def mx (m : Nat) (pre : List (Nat × T)) : Nat := pre.foldl (fun m x => max m x.1) m
mutual
theorem mx_subs (m l : Nat) (hl : 1 ≤ l) (hm : l ≤ m + 1) : (t : T) → mx m (T.subs l t) = max m (l + t.depth - 1)
  | .node h ts => by
    have h1 := mx_subss (max m l) (l + 1) (by omega) (by omega) ts
    simp only [mx, T.subs, List.foldl_cons, T.depth] at h1 ⊢
    rw [h1]; omega
theorem mx_subss (m l : Nat) (hl : 1 ≤ l) (hm : l ≤ m + 1) : (ts : List T) → mx m (T.subss l ts) = max m (l + T.depths ts - 1)
  | [] => by simp [mx, T.subss, T.depths]; omega
  | t :: ts => by
    have h1 := mx_subs m l hl hm t
    have h2 := mx_subss (max m (l + t.depth - 1)) l hl (by omega) ts
    simp only [mx, T.subss, List.foldl_append, T.depths] at h1 h2 ⊢
    rw [h1, h2]; omega
end
theorem mx_all (t : T) : mx 0 (T.subs 1 t) = t.depth := by rw [mx_subs 0 1 (by omega) (by omega)]; have := t.depth_pos; omega
theorem mx_snoc (m : Nat) (pre : List (Nat × T)) (x : Nat × T) : mx m (pre ++ [x]) = max (mx m pre) x.1 := by simp [mx]

end Go.Proofs.YtleohdddaadbeaaGreat

/- Contract of Check: a loop over the iterator of subterms that may leave early. -/
namespace Go.Proofs.YtleohdddaadbeaaGreat
set_option linter.unusedVariables false
set_option linter.unusedSimpArgs false
open Go.RowKit Go.Shelf
attribute [local go_sem] Oper.semAt_some

/-- Is a subterm among these that is not allowed? -/
def bad (pre : List (Nat × T)) : Bool := pre.any (fun x => !okB x.2.head x.2.args.length)
theorem bad_snoc (pre : List (Nat × T)) (x : Nat × T) : bad (pre ++ [x]) = (bad pre || !okB x.2.head x.2.args.length) := by simp [bad]

/-- What Check answers. -/
def T.check (t : T) : Int := if 400 < t.size then 2 else if 40 < t.depth then 7 else if bad (T.subs 1 t) then 1 else 0

theorem wf_low {h : Int} (hw : (Lit.int .i64 h).wf = true) : -9223372036854775808 ≤ h ∧ h ≤ 9223372036854775807 := by
  simp [Lit.wf, IntKind.min, IntKind.max, IntKind.signed, IntKind.bits] at hw
  omega

theorem boxed_other {W : World} {B B' : Nat} {t : TypeId} {v : Value} (h : Boxed W B t v) (hne : B ≠ B') (o : Nat) (u : Value) : Boxed (W.setCell ⟨B', o, none⟩ u) B t v := (Below.heap_setCell W ⟨B', o, none⟩ u B hne).trans h
theorem boxed_below {W W' : World} {B n : Nat} {t : TypeId} {v : Value} (h : Boxed W B t v) (hb : Below n W W') (hB : B < n) : Boxed W' B t v := (hb.block B hB).trans h

theorem boxed_new_at {W : World} {k : Nat} (h : k = W.heap.size) (t : TypeId) (v : Value) : Boxed (W.alloc (.cells #[v] t)) k t v := by subst h; exact Boxed.new W t v

/-- The variables of Check between two rounds. -/
def ChkI (w : World) (pre : List (Nat × T)) (W : World) : Prop :=
  Boxed W (w.heap.size + 1) 30 (.int .i64 0) ∧ Boxed W (w.heap.size + 1 + 1) 3 (.int .i64 (pre.length : Nat)) ∧ Boxed W (w.heap.size + 1 + 1 + 1) 3 (.int .i64 (mx 0 pre : Nat)) ∧
    Boxed W (w.heap.size + 1 + 1 + 1 + 1) 4 (.bool (bad pre)) ∧ pre.length ≤ 400 ∧ Below w.heap.size w W
def ChkX (w : World) (c : Code) (pre : List (Nat × T)) (W : World) : Prop := c = .ret ∧ Boxed W (w.heap.size + 1) 30 (.int .i64 2) ∧ 400 < pre.length ∧ Below w.heap.size w W

set_option maxRecDepth 100000 in
set_option maxHeartbeats 2000000 in
theorem check_any (t : T) (ht : t.size ≤ 1000000000000) (n₀ : Nat) (a : Option Addr) (c : Nat) (w : World) (hn : n₀ ≤ w.heap.size) (hwf : (Lit.int .i64 t.head).wf = true) (hA : IsArgs n₀ w t.args a c) :
    Calls Tryz.prog 67 #[tm t.head a t.args.length c] w fun e w' => e = .returned (.int .i64 t.check) ∧ Below w.heap.size w w' := by
  have HA := Lib.hid (hA.mono hn)
  clear hA hn n₀
  refine (callsIn_wide (n := 9)).1 ?_
  refine callsIn_of_wp_marks Tryz.func67 rfl trivial ?_ rfl
  simp only [Tryz.ntmps67, List.size_toArray, List.length_cons, List.length_nil, Nat.reduceAdd, Nat.reduceSub, Array.replicate_succ, Array.replicate_zero, List.push_toArray, List.append_toArray, List.nil_append, List.cons_append]
  gi_wp2_with (refine ⟨trivial, ?_⟩; gi_at_call 87; refine (callsIn_wide.2 (subterms_any _ _ _ _ _)).mono ?_; rintro e w' ⟨rfl, rfl⟩)
  obtain ⟨W3, hW3⟩ : ∃ W3, ((((((w.alloc (tmCells t.head a t.args.length c)).alloc (.cells #[.int .i64 0] 30)).alloc (.cells #[.int .i64 0] 3)).alloc (.cells #[.int .i64 0] 3)).alloc (.cells #[.bool false] 4)).alloc (tmCells t.head a t.args.length c)) = W3 := ⟨_, rfl⟩
  have hB3 : Below w.heap.size w W3 := by rw [← hW3]; exact ((((((Below.refl _ w).alloc (Nat.le_refl _) _).alloc (by simp) _).alloc (by simp; omega) _).alloc (by simp; omega) _).alloc (by simp; omega) _).alloc (by simp; omega) _
  have g1 : Boxed W3 (w.heap.size + 1) 30 (.int .i64 0) := by rw [← hW3]; exact ((((boxed_new_at (by simp) _ _).alloc _).alloc _).alloc _).alloc _
  have g2 : Boxed W3 (w.heap.size + 1 + 1) 3 (.int .i64 0) := by rw [← hW3]; exact (((boxed_new_at (by simp) _ _).alloc _).alloc _).alloc _
  have g3 : Boxed W3 (w.heap.size + 1 + 1 + 1) 3 (.int .i64 0) := by rw [← hW3]; exact ((boxed_new_at (by simp) _ _).alloc _).alloc _
  have g4 : Boxed W3 (w.heap.size + 1 + 1 + 1 + 1) 4 (.bool false) := by rw [← hW3]; exact (boxed_new_at (by simp) _ _).alloc _
  have f3 : W3.cell? ⟨w.heap.size + 1 + 1 + 1 + 1 + 1, 0, none⟩ = some (.int .i64 t.head) := by rw [← hW3]; simp [go_sem]
  have f4 : W3.cell? ⟨w.heap.size + 1 + 1 + 1 + 1 + 1, 1, none⟩ = some (.slice a t.args.length c) := by rw [← hW3]; simp [go_sem]
  have hs : W3.heap.size = w.heap.size + 6 := by rw [← hW3]; simp
  rw [hW3]
  clear hW3
  refine wpIn_rangeB rfl (by omega) (gf := 98) (lb := #[.pointer (some ⟨w.heap.size + 1 + 1 + 1 + 1 + 1, 0, none⟩)]) rfl trivial (enters_of Tryz.func98 (by kernel_rfl) rfl)
    (subterms_seq Fence.wide 8 trivial rfl (by omega) t ht (w.heap.size + 1 + 1 + 1 + 1 + 1) w.heap.size a c W3 (by omega) (by omega) hwf f3 f4 (HA.out.below hB3)) (Below.refl _ _) (by omega) (fun _ _ _ _ h => h.size) (fun _ _ _ _ _ h hb => h.below hb)
    (ChkI w) (ChkX w)
    (fun pre X Y h hb => ⟨boxed_below h.1 hb (by omega), boxed_below h.2.1 hb (by omega), boxed_below h.2.2.1 hb (by omega), boxed_below h.2.2.2.1 hb (by omega), h.2.2.2.2.1, h.2.2.2.2.2.trans (hb.mono (by omega))⟩)
    (fun c pre X Y h hb => ⟨h.1, boxed_below h.2.1 hb (by omega), h.2.2.1, h.2.2.2.trans (hb.mono (by omega))⟩)
    ⟨g1, g2, g3, g4, by simp, hB3⟩
    (fun x _ a' W => ∃ Bx a1 c1, W3.heap.size ≤ Bx ∧ W.cell? ⟨Bx, 0, none⟩ = some (.int .i64 x.2.head) ∧ W.cell? ⟨Bx, 1, none⟩ = some (.slice a1 x.2.args.length c1) ∧ (Lit.int .i64 x.2.head).wf = true ∧ a' = { tmps := #[tm t.head a t.args.length c, Value.pointer (some ⟨w.heap.size, 0, none⟩), Value.pointer (some ⟨w.heap.size + 1, 0, none⟩), Value.pointer (some ⟨w.heap.size + 1 + 1, 0, none⟩), Value.pointer (some ⟨w.heap.size + 1 + 1 + 1, 0, none⟩), Value.pointer (some ⟨w.heap.size + 1 + 1 + 1 + 1, 0, none⟩), Value.int .i64 x.1, Value.pointer (some ⟨Bx, 0, none⟩), Value.agg #[Value.int IntKind.i64 t.head, Value.slice a t.args.length c], Value.func (Fn.func 98) #[] #[Value.pointer (some ⟨w.heap.size + 1 + 1 + 1 + 1 + 1, 0, none⟩)], Value.int .i64 x.1, tm x.2.head a1 x.2.args.length c1, undef, undef, undef, undef, undef, undef, undef, undef, undef, undef, undef, undef, undef, undef, undef, undef], defers := [] })
    (fun x vs a' W l o o' hl ho hoc ⟨Bx, a1, c1, h1, h2, h3, h4, h5⟩ => ⟨Bx, a1, c1, h1, cell_kept h2 (grownBy_putObj' W l o') (fun r e => by cases e; exact ⟨o, ho, hoc⟩), cell_kept h3 (grownBy_putObj' W l o') (fun r e => by cases e; exact ⟨o, ho, hoc⟩), h4, h5⟩) ?assign ?body ?done ?stop
  case assign =>
    rintro l pre x vs W K hsz hi ⟨_, hxw, a1, c1, rfl, _⟩ hK
    have hsz' : w.heap.size + 6 ≤ W.heap.size := by omega
    simp only [fold2, List.setIfInBounds_toArray, List.set]
    gi_wp2
    refine hK _ _ ((Kept.refl _ _ _).alloc (by omega) _) ?_ ⟨W.heap.size, a1, c1, hsz, by simp [go_sem], by simp [go_sem], hxw, rfl⟩
    obtain ⟨k1, k2, k3, k4, k5, k6⟩ := hi
    exact ⟨k1.alloc _, k2.alloc _, k3.alloc _, k4.alloc _, k5, k6.alloc (by omega) _⟩
  case body =>
    rintro l pre x vs a' W hsz ⟨k1, k2, k3, k4, k5, k6⟩ hm ⟨Bx, a1, c1, hBx, hx1, hx2, hxw, rfl⟩
    clear hm
    have hz : w.heap.size + 6 ≤ W.heap.size := by omega
    have d1 := k1.cell
    have d2 := k2.cell
    have d3 := k3.cell
    have d4 := k4.cell
    have e1 := k1.frozen
    have e2 := k2.frozen
    have e3 := k3.frozen
    have e4 := k4.frozen
    have hBxs : Bx ≠ w.heap.size + 1 ∧ Bx ≠ w.heap.size + 1 + 1 ∧ Bx ≠ w.heap.size + 1 + 1 + 1 ∧ Bx ≠ w.heap.size + 1 + 1 + 1 + 1 := by omega
    obtain ⟨n1, n2, n3, n4⟩ := hBxs
    have HS := Lib.hid hs
    have K1 := Lib.hid k1
    have K2 := Lib.hid k2
    have K3 := Lib.hid k3
    have K4 := Lib.hid k4
    have K6 := Lib.hid k6
    have hxl := (wf_low hxw).1
    clear hs k1 k2 k3 k4 k6 hxw
    by_cases hfull : pre.length = 400
    · have hq : (400 : Int) < (pre.length : Int) + 1 := by omega
      gi_wp2
      refine ⟨((Kept.refl _ _ _).setCell (p := ⟨w.heap.size + 1 + 1, 0, none⟩) (by simp; omega) (.inl (by have := HS.out; simp; omega)) _).setCell (p := ⟨w.heap.size + 1, 0, none⟩) (by simp) (.inl (by have := HS.out; simp; omega)) _, rfl, ?_, by simp; omega, ?_⟩
      · exact (boxed_other K1.out (by omega) 0 _).set _
      · exact (K6.out.setCell (p := ⟨w.heap.size + 1 + 1, 0, none⟩) (by simp; omega) _).setCell (p := ⟨w.heap.size + 1, 0, none⟩) (by simp) _
    · have hq : ¬ (400 : Int) < (pre.length : Int) + 1 := by omega
      cases hbad : bad pre
      · rw [hbad] at d4
        gi_wp2_with (refine ⟨trivial, ?_⟩; gi_at_call 88; go_must (refine (CallsIn.inRound l (callsIn_wide.2 (allowed_any _ _ _ _ _ hxl))).mono ?_); rintro e w2 ⟨rfl, hB2⟩; have b4 := boxed_below (boxed_other (boxed_other K4.out (by omega) 0 _) (by omega) 0 _) hB2 (by simp; omega); have B2 := Lib.hid hB2; clear hB2; rw [hbad] at b4; have d5 := b4.cell; have e5 := b4.frozen; have B4 := Lib.hid b4; clear b4)
        all_goals
          refine ⟨(((((Kept.refl _ _ _).setCell (p := ⟨w.heap.size + 1 + 1, 0, none⟩) (by simp; omega) (.inl (by have := HS.out; simp; omega)) _).setCell (p := ⟨w.heap.size + 1 + 1 + 1, 0, none⟩) (by simp; omega) (.inl (by have := HS.out; simp; omega)) _)).below (by simp; omega) B2.out).setCell (p := ⟨w.heap.size + 1 + 1 + 1 + 1, 0, none⟩) (by simp; omega) (.inl (by have := HS.out; simp; omega)) _, ?_, ?_, ?_, ?_, by simp; omega, ?_⟩
          · exact boxed_other (boxed_below (boxed_other (boxed_other K1.out (by omega) 0 _) (by omega) 0 _) B2.out (by simp; omega)) (by omega) 0 _
          · have h := boxed_other (boxed_below (boxed_other (K2.out.set _) (by omega) 0 _) B2.out (by simp; omega)) (B' := w.heap.size + 1 + 1 + 1 + 1) (by omega) 0 (.bool (!okB x.2.head x.2.args.length))
            simpa using h
          · have h := boxed_other (boxed_below ((boxed_other K3.out (by omega) 0 _).set _) B2.out (by simp; omega)) (B' := w.heap.size + 1 + 1 + 1 + 1) (by omega) 0 (.bool (!okB x.2.head x.2.args.length))
            have h2 : (if mx 0 pre < x.1 then (x.1 : Int) else (mx 0 pre : Int)) = ((max (mx 0 pre) x.1 : Nat) : Int) := by split <;> omega
            rw [h2] at h
            rw [mx_snoc]
            exact h
          · rw [bad_snoc, hbad]; simpa using B4.out.set (.bool (!okB x.2.head x.2.args.length))
          · exact ((((K6.out.setCell (p := ⟨w.heap.size + 1 + 1, 0, none⟩) (by simp; omega) _).setCell (p := ⟨w.heap.size + 1 + 1 + 1, 0, none⟩) (by simp; omega) _)).trans (B2.out.mono (by simp; omega))).setCell (p := ⟨w.heap.size + 1 + 1 + 1 + 1, 0, none⟩) (by simp; omega) _
      · rw [hbad] at d4
        gi_wp2
        all_goals
          refine ⟨trivial, ?_⟩
          gi_wp2
          refine ⟨((((Kept.refl _ _ _).setCell (p := ⟨w.heap.size + 1 + 1, 0, none⟩) (by simp; omega) (.inl (by have := HS.out; simp; omega)) _).setCell (p := ⟨w.heap.size + 1 + 1 + 1, 0, none⟩) (by simp; omega) (.inl (by have := HS.out; simp; omega)) _)).setCell (p := ⟨w.heap.size + 1 + 1 + 1 + 1, 0, none⟩) (by simp; omega) (.inl (by have := HS.out; simp; omega)) _, ?_, ?_, ?_, ?_, by simp; omega, ?_⟩
          · exact boxed_other (boxed_other (boxed_other K1.out (by omega) 0 _) (by omega) 0 _) (by omega) 0 _
          · rw [show ((pre ++ [x]).length : Int) = (pre.length : Int) + 1 from by simp]
            exact boxed_other (boxed_other (K2.out.set _) (by omega) 0 _) (by omega) 0 _
          · rw [mx_snoc]
            first
              | (rw [show max (mx 0 pre) x.1 = x.1 from by omega]; exact boxed_other ((boxed_other K3.out (by omega) 0 _).set _) (by omega) 0 _)
              | (rw [show max (mx 0 pre) x.1 = mx 0 pre from by omega]; exact boxed_other ((boxed_other K3.out (by omega) 0 _).set _) (by omega) 0 _)
          · rw [bad_snoc, hbad]; exact (boxed_other (boxed_other K4.out (by omega) 0 _) (by omega) 0 _).set _
          · exact (((K6.out.setCell (p := ⟨w.heap.size + 1 + 1, 0, none⟩) (by simp; omega) _).setCell (p := ⟨w.heap.size + 1 + 1 + 1, 0, none⟩) (by simp; omega) _)).setCell (p := ⟨w.heap.size + 1 + 1 + 1 + 1, 0, none⟩) (by simp; omega) _
  case done =>
    rintro D xs W hD rfl ⟨k1, k2, k3, k4, k5, k6⟩ hK
    rw [T.subs_length] at k2 k5
    rw [mx_all] at k3
    have d1 := k1.cell
    have d3 := k3.cell
    have d4 := k4.cell
    have e1 := k1.frozen
    have HS := Lib.hid hs
    have K1 := Lib.hid k1
    have K6 := Lib.hid k6
    clear hs k1 k2 k3 k4 k6
    have fin : ∀ q : Int, (W.setCell ⟨w.heap.size + 1, 0, none⟩ (.int .i64 q)).heap[D]? = some (.deferred (some [])) := fun q => (Below.heap_setCell W ⟨w.heap.size + 1, 0, none⟩ _ D (by have := HS.out; simp; omega)).trans hK
    have FIN := Lib.hid fin
    clear fin
    by_cases hdp : 40 < t.depth
    · gi_wp2
      refine ⟨by simp, .inl ⟨_, _, rfl, run_takeDeferred (FIN.out 7), ?_⟩⟩
      have d1 := cell_kept (K1.out.set (.int .i64 7)).cell (grownBy_putObj' _ D (.deferred none)) (fun r e => by cases e; exact ⟨_, FIN.out 7, rfl⟩)
      refine ⟨.int .i64 7, by simp [results, Tryz.results67, go_sem, d1], ?_, (K6.out.setCell (p := ⟨w.heap.size + 1, 0, none⟩) (by simp) _).trans (below_putObj _ (FIN.out 7) (by have := HS.out; omega))⟩
      rw [T.check, if_neg (by omega), if_pos (by omega)]
    · cases hbad : bad (T.subs 1 t)
      · rw [hbad] at d4
        have HBD := Lib.hid hbad
        clear hbad
        gi_wp2
        refine ⟨by simp, .inl ⟨_, _, rfl, run_takeDeferred (FIN.out 0), ?_⟩⟩
        have d1 := cell_kept (K1.out.set (.int .i64 0)).cell (grownBy_putObj' _ D (.deferred none)) (fun r e => by cases e; exact ⟨_, FIN.out 0, rfl⟩)
        refine ⟨.int .i64 0, by simp [results, Tryz.results67, go_sem, d1], ?_, (K6.out.setCell (p := ⟨w.heap.size + 1, 0, none⟩) (by simp) _).trans (below_putObj _ (FIN.out 0) (by have := HS.out; omega))⟩
        rw [T.check, if_neg (by omega), if_neg (by omega), HBD.out]; rfl
      · rw [hbad] at d4
        have HBD := Lib.hid hbad
        clear hbad
        gi_wp2
        refine ⟨by simp, .inl ⟨_, _, rfl, run_takeDeferred (FIN.out 1), ?_⟩⟩
        have d1 := cell_kept (K1.out.set (.int .i64 1)).cell (grownBy_putObj' _ D (.deferred none)) (fun r e => by cases e; exact ⟨_, FIN.out 1, rfl⟩)
        refine ⟨.int .i64 1, by simp [results, Tryz.results67, go_sem, d1], ?_, (K6.out.setCell (p := ⟨w.heap.size + 1, 0, none⟩) (by simp) _).trans (below_putObj _ (FIN.out 1) (by have := HS.out; omega))⟩
        rw [T.check, if_neg (by omega), if_neg (by omega), HBD.out]; rfl
  case stop =>
    rintro D c pre W hD hpre ⟨rfl, k1, k2, k3⟩ hK
    gi_wp2
    refine ⟨by simp, .inl ⟨_, _, rfl, run_takeDeferred hK, ?_⟩⟩
    have d1 := cell_kept k1.cell (grownBy_putObj' W D (.deferred none)) (fun r e => by cases e; exact ⟨_, hK, rfl⟩)
    refine ⟨.int .i64 2, by simp [results, Tryz.results67, go_sem, d1], ?_, k3.trans (below_putObj _ hK (by omega))⟩
    have := hpre.length_le
    rw [T.subs_length] at this
    rw [T.check, if_pos (by omega)]

end Go.Proofs.YtleohdddaadbeaaGreat

/- Contract of Size: a loop over the iterator of subterms. -/
namespace Go.Proofs.YtleohdddaadbeaaGreat
set_option linter.unusedVariables false
set_option linter.unusedSimpArgs false
open Go.RowKit Go.Shelf
attribute [local go_sem] Oper.semAt_some

set_option maxRecDepth 100000 in
set_option maxHeartbeats 2000000 in
theorem size_any (t : T) (ht : t.size ≤ 1000000000000) (n₀ : Nat) (a : Option Addr) (c : Nat) (w : World) (hn : n₀ ≤ w.heap.size) (hwf : (Lit.int .i64 t.head).wf = true) (hA : IsArgs n₀ w t.args a c) :
    Calls Tryz.prog 72 #[tm t.head a t.args.length c] w fun e w' => e = .returned (.int .i64 (t.size : Nat)) ∧ Below w.heap.size w w' := by
  have HA := Lib.hid (hA.mono hn)
  clear hA hn n₀
  refine (callsIn_wide (n := 9)).1 ?_
  refine callsIn_of_wp_marks Tryz.func72 rfl trivial ?_ rfl
  simp only [Tryz.ntmps72, List.size_toArray, List.length_cons, List.length_nil, Nat.reduceAdd, Nat.reduceSub, Array.replicate_succ, Array.replicate_zero, List.push_toArray, List.append_toArray, List.nil_append, List.cons_append]
  gi_wp2_with (refine ⟨trivial, ?_⟩; gi_at_call 87; refine (callsIn_wide.2 (subterms_any _ _ _ _ _)).mono ?_; rintro e w' ⟨rfl, rfl⟩)
  have hB3 : Below w.heap.size w (((w.alloc (tmCells t.head a t.args.length c)).alloc (.cells #[.int .i64 0] 3)).alloc (tmCells t.head a t.args.length c)) := (((Below.refl _ w).alloc (Nat.le_refl _) _).alloc (by simp) _).alloc (by simp; omega) _
  have f1 : (((w.alloc (tmCells t.head a t.args.length c)).alloc (.cells #[.int .i64 0] 3)).alloc (tmCells t.head a t.args.length c)).cell? ⟨w.heap.size + 1, 0, none⟩ = some (.int .i64 0) := by simp [go_sem]
  have f2 : (((w.alloc (tmCells t.head a t.args.length c)).alloc (.cells #[.int .i64 0] 3)).alloc (tmCells t.head a t.args.length c)).frozen? ⟨w.heap.size + 1, 0, none⟩ = false := by simp [go_sem]
  have f3 : (((w.alloc (tmCells t.head a t.args.length c)).alloc (.cells #[.int .i64 0] 3)).alloc (tmCells t.head a t.args.length c)).cell? ⟨w.heap.size + 1 + 1, 0, none⟩ = some (.int .i64 t.head) := by simp [go_sem]
  have f4 : (((w.alloc (tmCells t.head a t.args.length c)).alloc (.cells #[.int .i64 0] 3)).alloc (tmCells t.head a t.args.length c)).cell? ⟨w.heap.size + 1 + 1, 1, none⟩ = some (.slice a t.args.length c) := by simp [go_sem]
  have hs : (((w.alloc (tmCells t.head a t.args.length c)).alloc (.cells #[.int .i64 0] 3)).alloc (tmCells t.head a t.args.length c)).heap.size = w.heap.size + 3 := by simp
  generalize (((w.alloc (tmCells t.head a t.args.length c)).alloc (.cells #[.int .i64 0] 3)).alloc (tmCells t.head a t.args.length c)) = W3 at *
  refine wpIn_rangeB rfl (by omega) (gf := 98) (lb := #[.pointer (some ⟨w.heap.size + 1 + 1, 0, none⟩)]) rfl trivial (enters_of Tryz.func98 (by kernel_rfl) rfl)
    (subterms_seq Fence.wide 8 trivial rfl (by omega) t ht (w.heap.size + 1 + 1) w.heap.size a c W3 (by omega) (by omega) hwf f3 f4 (HA.out.below hB3)) (Below.refl _ _) (by omega) (fun _ _ _ _ h => h.size) (fun _ _ _ _ _ h hb => h.below hb)
    (fun pre W => W.cell? ⟨w.heap.size + 1, 0, none⟩ = some (.int .i64 (pre.length : Nat)) ∧ W.frozen? ⟨w.heap.size + 1, 0, none⟩ = false ∧ Below w.heap.size w W)
    (fun _ _ _ => False)
    (fun pre X Y h hb => ⟨(hb.cell (p := ⟨w.heap.size + 1, 0, none⟩) (by simp; omega)).trans h.1, (hb.frozen (p := ⟨w.heap.size + 1, 0, none⟩) (by simp; omega)).trans h.2.1, h.2.2.trans (hb.mono (by omega))⟩)
    (fun _ _ _ _ h _ => h)
    ⟨f1, f2, hB3⟩
    (fun _ _ a' _ => ∃ u v, a' = { tmps := #[tm t.head a t.args.length c, Value.pointer (some ⟨w.heap.size, 0, none⟩), Value.int IntKind.i64 0, Value.pointer (some ⟨w.heap.size + 1, 0, none⟩), Value.agg #[Value.int IntKind.i64 t.head, Value.slice a t.args.length c], Value.func (Fn.func 98) #[] #[Value.pointer (some ⟨w.heap.size + 1 + 1, 0, none⟩)], u, v, undef, undef, undef], defers := [] })
    (fun _ _ _ _ _ _ _ _ _ _ h => h) ?assign ?body ?done ?stop
  case assign =>
    rintro l pre x vs W K hsz hi ⟨_, _, a1, c1, rfl, _⟩ hK
    gi_wp2
    exact hK _ _ (Kept.refl _ _ _) hi ⟨.int .i64 x.1, tm x.2.head a1 x.2.args.length c1, by simp⟩
  case body =>
    rintro l pre x vs a' W hsz ⟨hc, hf, hb⟩ hm ⟨u, v, rfl⟩
    have hlen : pre.length < t.size := hm.length
    clear hm
    gi_wp2
    refine ⟨(Kept.refl _ _ _).setCell (p := ⟨w.heap.size + 1, 0, none⟩) (by simp) (.inl (by simp; omega)) _, ?_, ?_, hb.setCell (p := ⟨w.heap.size + 1, 0, none⟩) (by simp) _⟩
    · rw [World.cell?_setCell_same' _ _ _ (by rw [hc]; rfl)]; simp
    · rw [World.frozen?_setCell]; exact hf
  case done =>
    rintro D xs W hD rfl ⟨hc, hf, hb⟩ hK
    gi_wp2
    refine ⟨by simp, .inl ⟨_, _, rfl, run_takeDeferred hK, ?_⟩⟩
    refine ⟨_, results_tmp rfl _ _ _, by rw [T.subs_length]; rfl, hb.trans (below_putObj _ hK (by omega))⟩
  case stop =>
    rintro D c pre W _ _ h _
    exact h.elim

end Go.Proofs.YtleohdddaadbeaaGreat
