/- QBc: joined of Check, Va0, Cn0, Lt0, Sg. -/
import Derived.Test.YtpncmdlbmnmahaaGreatSub
import Derived.Maps.OwnIn
import Derived.Test.YtpncmdlbmnmahaaGreatQBb
import Derived.Test.YtpncmdlbmnmahaaGreatQBa
import Derived.Laws.AppendOwnNone
/- Check: joined of Sz, Check. -/
/- The depth of terms, and small lemmas for loops over the iterator of subterms. -/
namespace Go.Proofs.YtpncmdlbmnmahaaGreat
set_option linter.unusedVariables false
set_option linter.unusedSimpArgs false
open Go.RowKit Go.Shelf
attribute [local go_sem] Oper.semAt_some
theorem fold2 (t : Array Value) (p q : Tmp) (u v : Value) : (#[p, q].zip #[u, v]).foldl (fun t (x : Tmp × Value) => t.setIfInBounds x.1 x.2) t = (t.setIfInBounds p u).setIfInBounds q v := by simp
mutual
def T.depth : T → Nat
  | .node _ ts => T.depths ts + 1
def T.depths : List T → Nat
  | [] => 0
  | t :: ts => max t.depth (T.depths ts)
end
theorem T.depth_pos (t : T) : 1 ≤ t.depth := by cases t; simp [T.depth]
def mx (m : Nat) (pre : List (Nat × T)) : Nat := pre.foldl (fun m x => max m x.1) m
mutual
theorem mx_subs (m l : Nat) (hl : 1 ≤ l) (hm : l ≤ m + 1) : (t : T) → mx m (T.subs l t) = max m (l + t.depth - 1)
  | .node h ts => by
    have h1 := mx_subss (max m l) (l + 1) (by omega) (by omega) ts
    simp only [mx, T.subs, List.foldl_cons, T.depth] at h1 ⊢
    rw [h1]; omega
theorem mx_subss (m l : Nat) (hl : 1 ≤ l) (hm : l ≤ m + 1) : (ts : List T) → mx m (T.subss l ts) = max m (l + T.depths ts - 1)
  | [] => by simp [mx, T.subss, T.depths]; omega
  | t :: ts => by
    have h1 := mx_subs m l hl hm t
    have h2 := mx_subss (max m (l + t.depth - 1)) l hl (by omega) ts
    simp only [mx, T.subss, List.foldl_append, T.depths] at h1 h2 ⊢
    rw [h1, h2]; omega
end
theorem mx_all (t : T) : mx 0 (T.subs 1 t) = t.depth := by rw [mx_subs 0 1 (by omega) (by omega)]; have := t.depth_pos; omega
theorem mx_snoc (m : Nat) (pre : List (Nat × T)) (x : Nat × T) : mx m (pre ++ [x]) = max (mx m pre) x.1 := by simp [mx]
end Go.Proofs.YtpncmdlbmnmahaaGreat
/- Contract of Check: a loop over the iterator of subterms that may leave early. -/
namespace Go.Proofs.YtpncmdlbmnmahaaGreat
set_option linter.unusedVariables false
set_option linter.unusedSimpArgs false
open Go.RowKit Go.Shelf
attribute [local go_sem] Oper.semAt_some
/-- Is a subterm among these that is not allowed? -/
def bad (pre : List (Nat × T)) : Bool := pre.any (fun x => !okB x.2.head x.2.args.length)
theorem bad_snoc (pre : List (Nat × T)) (x : Nat × T) : bad (pre ++ [x]) = (bad pre || !okB x.2.head x.2.args.length) := by simp [bad]
/-- What Check answers. -/
def T.check (t : T) : Int := if 400 < t.size then 2 else if 40 < t.depth then 7 else if bad (T.subs 1 t) then 1 else 0
theorem wf_low {h : Int} (hw : (Lit.int .i64 h).wf = true) : -9223372036854775808 ≤ h ∧ h ≤ 9223372036854775807 := by
  simp [Lit.wf, IntKind.min, IntKind.max, IntKind.signed, IntKind.bits] at hw
  omega
theorem boxed_other {W : World} {B B' : Nat} {t : TypeId} {v : Value} (h : Boxed W B t v) (hne : B ≠ B') (o : Nat) (u : Value) : Boxed (W.setCell ⟨B', o, none⟩ u) B t v := (Below.heap_setCell W ⟨B', o, none⟩ u B hne).trans h
theorem boxed_below {W W' : World} {B n : Nat} {t : TypeId} {v : Value} (h : Boxed W B t v) (hb : Below n W W') (hB : B < n) : Boxed W' B t v := (hb.block B hB).trans h
theorem boxed_new_at {W : World} {k : Nat} (h : k = W.heap.size) (t : TypeId) (v : Value) : Boxed (W.alloc (.cells #[v] t)) k t v := by subst h; exact Boxed.new W t v
/-- The variables of Check between two rounds. -/
def ChkI (w : World) (pre : List (Nat × T)) (W : World) : Prop :=
  Boxed W (w.heap.size + 1) 27 (.int .i64 0) ∧ Boxed W (w.heap.size + 1 + 1) 3 (.int .i64 (pre.length : Nat)) ∧ Boxed W (w.heap.size + 1 + 1 + 1) 3 (.int .i64 (mx 0 pre : Nat)) ∧
    Boxed W (w.heap.size + 1 + 1 + 1 + 1) 4 (.bool (bad pre)) ∧ pre.length ≤ 400 ∧ Below w.heap.size w W
def ChkX (w : World) (c : Code) (pre : List (Nat × T)) (W : World) : Prop := c = .ret ∧ Boxed W (w.heap.size + 1) 27 (.int .i64 2) ∧ 400 < pre.length ∧ Below w.heap.size w W
set_option maxRecDepth 100000 in
set_option maxHeartbeats 2000000 in
theorem check_any (t : T) (ht : t.size ≤ 1000000000000) (n₀ : Nat) (a : Option Addr) (c : Nat) (w : World) (hn : n₀ ≤ w.heap.size) (hwf : (Lit.int .i64 t.head).wf = true) (hA : IsArgs n₀ w t.args a c) :
    Calls Tryz.prog 79 #[tm t.head a t.args.length c] w fun e w' => e = .returned (.int .i64 t.check) ∧ Below w.heap.size w w' := by
  have HA := Lib.hid (hA.mono hn)
  clear hA hn n₀
  refine (callsIn_wide (n := 9)).1 ?_
  refine callsIn_of_wp_marks Tryz.func79 rfl trivial ?_ rfl
  simp only [Tryz.ntmps79, List.size_toArray, List.length_cons, List.length_nil, Nat.reduceAdd, Nat.reduceSub, Array.replicate_succ, Array.replicate_zero, List.push_toArray, List.append_toArray, List.nil_append, List.cons_append]
  gi_wp2_with (refine ⟨trivial, ?_⟩; gi_at_call 111; refine (callsIn_wide.2 (subterms_any _ _ _ _ _)).mono ?_; rintro e w' ⟨rfl, rfl⟩)
  obtain ⟨W3, hW3⟩ : ∃ W3, ((((((w.alloc (tmCells t.head a t.args.length c)).alloc (.cells #[.int .i64 0] 27)).alloc (.cells #[.int .i64 0] 3)).alloc (.cells #[.int .i64 0] 3)).alloc (.cells #[.bool false] 4)).alloc (tmCells t.head a t.args.length c)) = W3 := ⟨_, rfl⟩
  have hB3 : Below w.heap.size w W3 := by rw [← hW3]; exact ((((((Below.refl _ w).alloc (Nat.le_refl _) _).alloc (by simp) _).alloc (by simp; omega) _).alloc (by simp; omega) _).alloc (by simp; omega) _).alloc (by simp; omega) _
  have g1 : Boxed W3 (w.heap.size + 1) 27 (.int .i64 0) := by rw [← hW3]; exact ((((boxed_new_at (by simp) _ _).alloc _).alloc _).alloc _).alloc _
  have g2 : Boxed W3 (w.heap.size + 1 + 1) 3 (.int .i64 0) := by rw [← hW3]; exact (((boxed_new_at (by simp) _ _).alloc _).alloc _).alloc _
  have g3 : Boxed W3 (w.heap.size + 1 + 1 + 1) 3 (.int .i64 0) := by rw [← hW3]; exact ((boxed_new_at (by simp) _ _).alloc _).alloc _
  have g4 : Boxed W3 (w.heap.size + 1 + 1 + 1 + 1) 4 (.bool false) := by rw [← hW3]; exact (boxed_new_at (by simp) _ _).alloc _
  have f3 : W3.cell? ⟨w.heap.size + 1 + 1 + 1 + 1 + 1, 0, none⟩ = some (.int .i64 t.head) := by rw [← hW3]; simp [go_sem]
  have f4 : W3.cell? ⟨w.heap.size + 1 + 1 + 1 + 1 + 1, 1, none⟩ = some (.slice a t.args.length c) := by rw [← hW3]; simp [go_sem]
  have hs : W3.heap.size = w.heap.size + 6 := by rw [← hW3]; simp
  rw [hW3]
  clear hW3
  refine wpIn_rangeB rfl (by omega) (gf := 132) (lb := #[.pointer (some ⟨w.heap.size + 1 + 1 + 1 + 1 + 1, 0, none⟩)]) rfl trivial (enters_of Tryz.func132 (by kernel_rfl) rfl)
    (subterms_seq Fence.wide 8 trivial rfl (by omega) t ht (w.heap.size + 1 + 1 + 1 + 1 + 1) w.heap.size a c W3 (by omega) (by omega) hwf f3 f4 (HA.out.below hB3)) (Below.refl _ _) (by omega) (fun _ _ _ _ h => h.size) (fun _ _ _ _ _ h hb => h.below hb)
    (ChkI w) (ChkX w)
    (fun pre X Y h hb => ⟨boxed_below h.1 hb (by omega), boxed_below h.2.1 hb (by omega), boxed_below h.2.2.1 hb (by omega), boxed_below h.2.2.2.1 hb (by omega), h.2.2.2.2.1, h.2.2.2.2.2.trans (hb.mono (by omega))⟩)
    (fun c pre X Y h hb => ⟨h.1, boxed_below h.2.1 hb (by omega), h.2.2.1, h.2.2.2.trans (hb.mono (by omega))⟩)
    ⟨g1, g2, g3, g4, by simp, hB3⟩
    (fun x _ a' W => ∃ Bx a1 c1, W3.heap.size ≤ Bx ∧ W.cell? ⟨Bx, 0, none⟩ = some (.int .i64 x.2.head) ∧ W.cell? ⟨Bx, 1, none⟩ = some (.slice a1 x.2.args.length c1) ∧ (Lit.int .i64 x.2.head).wf = true ∧ a' = { tmps := #[tm t.head a t.args.length c, Value.pointer (some ⟨w.heap.size, 0, none⟩), Value.pointer (some ⟨w.heap.size + 1, 0, none⟩), Value.pointer (some ⟨w.heap.size + 1 + 1, 0, none⟩), Value.pointer (some ⟨w.heap.size + 1 + 1 + 1, 0, none⟩), Value.pointer (some ⟨w.heap.size + 1 + 1 + 1 + 1, 0, none⟩), Value.int .i64 x.1, Value.pointer (some ⟨Bx, 0, none⟩), Value.agg #[Value.int IntKind.i64 t.head, Value.slice a t.args.length c], Value.func (Fn.func 132) #[] #[Value.pointer (some ⟨w.heap.size + 1 + 1 + 1 + 1 + 1, 0, none⟩)], Value.int .i64 x.1, tm x.2.head a1 x.2.args.length c1, undef, undef, undef, undef, undef, undef, undef, undef, undef, undef, undef, undef, undef, undef, undef, undef], defers := [] })
    (fun x vs a' W l o o' hl ho hoc ⟨Bx, a1, c1, h1, h2, h3, h4, h5⟩ => ⟨Bx, a1, c1, h1, cell_kept h2 (grownBy_putObj' W l o') (fun r e => by cases e; exact ⟨o, ho, hoc⟩), cell_kept h3 (grownBy_putObj' W l o') (fun r e => by cases e; exact ⟨o, ho, hoc⟩), h4, h5⟩) ?assign ?body ?done ?stop
  case assign =>
    rintro l pre x vs W K hsz hi ⟨_, hxw, a1, c1, rfl, _⟩ hK
    have hsz' : w.heap.size + 6 ≤ W.heap.size := by omega
    simp only [fold2, List.setIfInBounds_toArray, List.set]
    gi_wp2
    refine hK _ _ ((Kept.refl _ _ _).alloc (by omega) _) ?_ ⟨W.heap.size, a1, c1, hsz, by simp [go_sem], by simp [go_sem], hxw, rfl⟩
    obtain ⟨k1, k2, k3, k4, k5, k6⟩ := hi
    exact ⟨k1.alloc _, k2.alloc _, k3.alloc _, k4.alloc _, k5, k6.alloc (by omega) _⟩
  case body =>
    rintro l pre x vs a' W hsz ⟨k1, k2, k3, k4, k5, k6⟩ hm ⟨Bx, a1, c1, hBx, hx1, hx2, hxw, rfl⟩
    clear hm
    have hz : w.heap.size + 6 ≤ W.heap.size := by omega
    have d1 := k1.cell
    have d2 := k2.cell
    have d3 := k3.cell
    have d4 := k4.cell
    have e1 := k1.frozen
    have e2 := k2.frozen
    have e3 := k3.frozen
    have e4 := k4.frozen
    have hBxs : Bx ≠ w.heap.size + 1 ∧ Bx ≠ w.heap.size + 1 + 1 ∧ Bx ≠ w.heap.size + 1 + 1 + 1 ∧ Bx ≠ w.heap.size + 1 + 1 + 1 + 1 := by omega
    obtain ⟨n1, n2, n3, n4⟩ := hBxs
    have HS := Lib.hid hs
    have K1 := Lib.hid k1
    have K2 := Lib.hid k2
    have K3 := Lib.hid k3
    have K4 := Lib.hid k4
    have K6 := Lib.hid k6
    have hxl := (wf_low hxw).1
    clear hs k1 k2 k3 k4 k6 hxw
    by_cases hfull : pre.length = 400
    · have hq : (400 : Int) < (pre.length : Int) + 1 := by omega
      gi_wp2
      refine ⟨((Kept.refl _ _ _).setCell (p := ⟨w.heap.size + 1 + 1, 0, none⟩) (by simp; omega) (.inl (by have := HS.out; simp; omega)) _).setCell (p := ⟨w.heap.size + 1, 0, none⟩) (by simp) (.inl (by have := HS.out; simp; omega)) _, rfl, ?_, by simp; omega, ?_⟩
      · exact (boxed_other K1.out (by omega) 0 _).set _
      · exact (K6.out.setCell (p := ⟨w.heap.size + 1 + 1, 0, none⟩) (by simp; omega) _).setCell (p := ⟨w.heap.size + 1, 0, none⟩) (by simp) _
    · have hq : ¬ (400 : Int) < (pre.length : Int) + 1 := by omega
      cases hbad : bad pre
      · rw [hbad] at d4
        gi_wp2_with (refine ⟨trivial, ?_⟩; gi_at_call 112; go_must (refine (CallsIn.inRound l (callsIn_wide.2 (allowed_any _ _ _ _ _ hxl))).mono ?_); rintro e w2 ⟨rfl, hB2⟩; have b4 := boxed_below (boxed_other (boxed_other K4.out (by omega) 0 _) (by omega) 0 _) hB2 (by simp; omega); have B2 := Lib.hid hB2; clear hB2; rw [hbad] at b4; have d5 := b4.cell; have e5 := b4.frozen; have B4 := Lib.hid b4; clear b4)
        all_goals
          refine ⟨(((((Kept.refl _ _ _).setCell (p := ⟨w.heap.size + 1 + 1, 0, none⟩) (by simp; omega) (.inl (by have := HS.out; simp; omega)) _).setCell (p := ⟨w.heap.size + 1 + 1 + 1, 0, none⟩) (by simp; omega) (.inl (by have := HS.out; simp; omega)) _)).below (by simp; omega) B2.out).setCell (p := ⟨w.heap.size + 1 + 1 + 1 + 1, 0, none⟩) (by simp; omega) (.inl (by have := HS.out; simp; omega)) _, ?_, ?_, ?_, ?_, by simp; omega, ?_⟩
          · exact boxed_other (boxed_below (boxed_other (boxed_other K1.out (by omega) 0 _) (by omega) 0 _) B2.out (by simp; omega)) (by omega) 0 _
          · have h := boxed_other (boxed_below (boxed_other (K2.out.set _) (by omega) 0 _) B2.out (by simp; omega)) (B' := w.heap.size + 1 + 1 + 1 + 1) (by omega) 0 (.bool (!okB x.2.head x.2.args.length))
            simpa using h
          · have h := boxed_other (boxed_below ((boxed_other K3.out (by omega) 0 _).set _) B2.out (by simp; omega)) (B' := w.heap.size + 1 + 1 + 1 + 1) (by omega) 0 (.bool (!okB x.2.head x.2.args.length))
            have h2 : (if mx 0 pre < x.1 then (x.1 : Int) else (mx 0 pre : Int)) = ((max (mx 0 pre) x.1 : Nat) : Int) := by split <;> omega
            first | rw [h2] at h | rw [show max ((mx 0 pre : Nat) : Int) (x.1 : Int) = ((max (mx 0 pre) x.1 : Nat) : Int) from by omega] at h
            rw [mx_snoc]
            exact h
          · rw [bad_snoc, hbad]; simpa using B4.out.set (.bool (!okB x.2.head x.2.args.length))
          · exact ((((K6.out.setCell (p := ⟨w.heap.size + 1 + 1, 0, none⟩) (by simp; omega) _).setCell (p := ⟨w.heap.size + 1 + 1 + 1, 0, none⟩) (by simp; omega) _)).trans (B2.out.mono (by simp; omega))).setCell (p := ⟨w.heap.size + 1 + 1 + 1 + 1, 0, none⟩) (by simp; omega) _
      · rw [hbad] at d4
        gi_wp2
        all_goals
          refine ⟨trivial, ?_⟩
          gi_wp2
          refine ⟨((((Kept.refl _ _ _).setCell (p := ⟨w.heap.size + 1 + 1, 0, none⟩) (by simp; omega) (.inl (by have := HS.out; simp; omega)) _).setCell (p := ⟨w.heap.size + 1 + 1 + 1, 0, none⟩) (by simp; omega) (.inl (by have := HS.out; simp; omega)) _)).setCell (p := ⟨w.heap.size + 1 + 1 + 1 + 1, 0, none⟩) (by simp; omega) (.inl (by have := HS.out; simp; omega)) _, ?_, ?_, ?_, ?_, by simp; omega, ?_⟩
          · exact boxed_other (boxed_other (boxed_other K1.out (by omega) 0 _) (by omega) 0 _) (by omega) 0 _
          · rw [show ((pre ++ [x]).length : Int) = (pre.length : Int) + 1 from by simp]
            exact boxed_other (boxed_other (K2.out.set _) (by omega) 0 _) (by omega) 0 _
          · rw [mx_snoc]
            first
              | (rw [show max (mx 0 pre) x.1 = x.1 from by omega]; exact boxed_other ((boxed_other K3.out (by omega) 0 _).set _) (by omega) 0 _)
              | (rw [show max (mx 0 pre) x.1 = mx 0 pre from by omega]; exact boxed_other ((boxed_other K3.out (by omega) 0 _).set _) (by omega) 0 _)
              | (rw [show ((max (mx 0 pre) x.1 : Nat) : Int) = max ((mx 0 pre : Nat) : Int) (x.1 : Int) from by omega]; exact boxed_other ((boxed_other K3.out (by omega) 0 _).set _) (by omega) 0 _)
          · rw [bad_snoc, hbad]; exact (boxed_other (boxed_other K4.out (by omega) 0 _) (by omega) 0 _).set _
          · exact (((K6.out.setCell (p := ⟨w.heap.size + 1 + 1, 0, none⟩) (by simp; omega) _).setCell (p := ⟨w.heap.size + 1 + 1 + 1, 0, none⟩) (by simp; omega) _)).setCell (p := ⟨w.heap.size + 1 + 1 + 1 + 1, 0, none⟩) (by simp; omega) _
  case done =>
    rintro D xs W hD rfl ⟨k1, k2, k3, k4, k5, k6⟩ hK
    rw [T.subs_length] at k2 k5
    rw [mx_all] at k3
    have d1 := k1.cell
    have d3 := k3.cell
    have d4 := k4.cell
    have e1 := k1.frozen
    have HS := Lib.hid hs
    have K1 := Lib.hid k1
    have K6 := Lib.hid k6
    clear hs k1 k2 k3 k4 k6
    have fin : ∀ q : Int, (W.setCell ⟨w.heap.size + 1, 0, none⟩ (.int .i64 q)).heap[D]? = some (.deferred (some [])) := fun q => (Below.heap_setCell W ⟨w.heap.size + 1, 0, none⟩ _ D (by have := HS.out; simp; omega)).trans hK
    have FIN := Lib.hid fin
    clear fin
    by_cases hdp : 40 < t.depth
    · gi_wp2
      refine ⟨by simp, .inl ⟨_, _, rfl, run_takeDeferred (FIN.out 7), ?_⟩⟩
      have d1 := cell_kept (K1.out.set (.int .i64 7)).cell (grownBy_putObj' _ D (.deferred none)) (fun r e => by cases e; exact ⟨_, FIN.out 7, rfl⟩)
      refine ⟨.int .i64 7, by simp [results, Tryz.results79, go_sem, d1], ?_, (K6.out.setCell (p := ⟨w.heap.size + 1, 0, none⟩) (by simp) _).trans (below_putObj _ (FIN.out 7) (by have := HS.out; omega))⟩
      rw [T.check, if_neg (by omega), if_pos (by omega)]
    · cases hbad : bad (T.subs 1 t)
      · rw [hbad] at d4
        have HBD := Lib.hid hbad
        clear hbad
        gi_wp2
        refine ⟨by simp, .inl ⟨_, _, rfl, run_takeDeferred (FIN.out 0), ?_⟩⟩
        have d1 := cell_kept (K1.out.set (.int .i64 0)).cell (grownBy_putObj' _ D (.deferred none)) (fun r e => by cases e; exact ⟨_, FIN.out 0, rfl⟩)
        refine ⟨.int .i64 0, by simp [results, Tryz.results79, go_sem, d1], ?_, (K6.out.setCell (p := ⟨w.heap.size + 1, 0, none⟩) (by simp) _).trans (below_putObj _ (FIN.out 0) (by have := HS.out; omega))⟩
        rw [T.check, if_neg (by omega), if_neg (by omega), HBD.out]; rfl
      · rw [hbad] at d4
        have HBD := Lib.hid hbad
        clear hbad
        gi_wp2
        refine ⟨by simp, .inl ⟨_, _, rfl, run_takeDeferred (FIN.out 1), ?_⟩⟩
        have d1 := cell_kept (K1.out.set (.int .i64 1)).cell (grownBy_putObj' _ D (.deferred none)) (fun r e => by cases e; exact ⟨_, FIN.out 1, rfl⟩)
        refine ⟨.int .i64 1, by simp [results, Tryz.results79, go_sem, d1], ?_, (K6.out.setCell (p := ⟨w.heap.size + 1, 0, none⟩) (by simp) _).trans (below_putObj _ (FIN.out 1) (by have := HS.out; omega))⟩
        rw [T.check, if_neg (by omega), if_neg (by omega), HBD.out]; rfl
  case stop =>
    rintro D c pre W hD hpre ⟨rfl, k1, k2, k3⟩ hK
    gi_wp2
    refine ⟨by simp, .inl ⟨_, _, rfl, run_takeDeferred hK, ?_⟩⟩
    have d1 := cell_kept k1.cell (grownBy_putObj' W D (.deferred none)) (fun r e => by cases e; exact ⟨_, hK, rfl⟩)
    refine ⟨.int .i64 2, by simp [results, Tryz.results79, go_sem, d1], ?_, k3.trans (below_putObj _ hK (by omega))⟩
    have := hpre.length_le
    rw [T.subs_length] at this
    rw [T.check, if_pos (by omega)]
end Go.Proofs.YtpncmdlbmnmahaaGreat

/- What is plain in the contract of Vars: variables in order, slices of ints, frames of iterators. -/
namespace Go.Proofs.YtpncmdlbmnmahaaGreat
set_option linter.unusedVariables false
set_option linter.unusedSimpArgs false
open Go.RowKit Go.Shelf
attribute [local go_sem] Oper.semAt_some
/-- The variables among these, each once, in the order of their first occurrences. -/
def varStep (acc : List Int) (x : Nat × T) : List Int := if x.2.head < 0 then (if acc.contains (-1 - x.2.head) then acc else acc ++ [-1 - x.2.head]) else acc
def varsOf (pre : List (Nat × T)) : List Int := pre.foldl varStep []
theorem varStep_length (acc : List Int) (x : Nat × T) : (varStep acc x).length ≤ acc.length + 1 := by
  unfold varStep; split
  · split
    · omega
    · simp
  · omega
theorem KeptO.alloc {n₀ B : Nat} {own : TypeId → Bool} {X Y : World} (h : KeptO n₀ B own X Y) (hn : n₀ ≤ X.heap.size) (o : Obj) : KeptO n₀ B own X (Y.alloc o) :=
  ⟨h.1.alloc (Nat.le_trans hn h.1.size) o, fun b hb hl ho => (Below.heap_alloc _ _ _ (Nat.lt_of_lt_of_le hl h.1.size)).trans (h.2 b hb hl ho)⟩
theorem KeptO.grown {n₀ B : Nat} {own : TypeId → Bool} {X Y Z : World} {row : Option Nat} (h : KeptO n₀ B own X Y) (hg : Y.grownBy Z row) (hn : n₀ ≤ Y.heap.size)
    (hr : ∀ k, row = some k → n₀ ≤ k ∧ (k < B ∨ ∃ cs e fz, X.heap[k]? = some (Obj.cells cs e fz) ∧ own e = false)) : KeptO n₀ B own X Z :=
  ⟨h.1.grown hg hn (fun k e => (hr k e).1), fun b hb hl ho => (hg.block b (Nat.lt_of_lt_of_le hl h.1.size) (fun e => by
    rcases (hr b e.symm).2 with h1 | ⟨cs, e', fz, h1, h2⟩
    · omega
    · rw [ho cs e' fz h1] at h2; cases h2)).trans (h.2 b hb hl ho)⟩
theorem KeptO.setCell {n₀ B : Nat} {own : TypeId → Bool} {X Y : World} (h : KeptO n₀ B own X Y) {p : Addr} (hp : n₀ ≤ p.block) (hq : p.block < B) (u : Value) : KeptO n₀ B own X (Y.setCell p u) :=
  ⟨h.1.setCell hp u, fun b hb hl ho => (Below.heap_setCell _ _ _ _ (by omega)).trans (h.2 b hb hl ho)⟩
theorem info3 : (Tryz.prog.info? 3).map (fun i => (i.zero, i.size, i.bytes)) = some (some (.int .i64 0), 1, 8) := by kernel_rfl
end Go.Proofs.YtpncmdlbmnmahaaGreat

/- Contracts of Count and Few. -/
namespace Go.Proofs.YtpncmdlbmnmahaaGreat
set_option linter.unusedVariables false
set_option linter.unusedSimpArgs false
open Go.RowKit
/-- Count(t, most): the size, as far as one above most. -/
theorem count_any : ∀ (N : Nat) (t : T), t.size ≤ N → ∀ (most : Nat) (n₀ : Nat) (a : Option Addr) (c : Nat) (w : World), most ≤ 500 → n₀ ≤ w.heap.size → IsArgs n₀ w t.args a c →
    Calls Tryz.prog 22 #[tm t.head a t.args.length c, .int .i64 most] w fun e w' => e = .returned (.int .i64 (min t.size (most + 1) : Nat)) ∧ Below w.heap.size w w' := by
  intro N
  induction N with
  | zero => intro t ht; have := T.size_pos t; omega
  | succ N ih =>
    intro t ht most n₀ a c w hm hn hA
    have IH := Lib.hid ih
    clear ih
    have hsz := T.size_eq t
    have HS := Lib.hid hsz
    clear hsz
    have hlc : t.args.length ≤ c ∧ c ≤ maxLen := ⟨hA.1, hA.2.1⟩
    unfold maxLen at hlc
    obtain ⟨hl1, hl2⟩ := hlc
    generalize hL : t.args.length = len at *
    have HL := Lib.hid hL
    clear hL
    have HA := Lib.hid hA
    clear hA
    go_enter Tryz.func22, Tryz.ntmps22
    go_wp2
    go_loopw [5, 6] (fun n i wr => ∃ k : Nat, k ≤ len ∧ i = .int .i64 k ∧ n = .int .i64 (min (1 + T.sizes (t.args.take k)) (most + 1) : Nat) ∧ Below (w.heap.size + 1) (w.alloc (tmCells t.head a len c)) wr)
      (fun _ i _ => len - (intOf i).toNat)
    case atStart => exact ⟨0, Nat.zero_le _, rfl, by simp [T.sizes], Below.refl _ _⟩
    case round =>
      obtain ⟨k, hk, rfl, rfl, hB⟩ := hrel
      generalize hm' : min (1 + T.sizes (t.args.take k)) (most + 1) = m at *
      have hmb : m ≤ 501 := by omega
      have HM := Lib.hid hm'
      clear hm'
      have hbox : wr.cell? ⟨w.heap.size, 1, none⟩ = some (.slice a len c) := (hB.cell (p := ⟨w.heap.size, 1, none⟩) (by simp)).trans (by simp [go_sem])
      have HB := Lib.hid hB
      clear hB
      by_cases hlt : k < len
      · by_cases hle : m ≤ most
        · have hw : Below n₀ w wr := ((Below.refl n₀ w).alloc hn _).trans (HB.out.mono (by omega))
          obtain ⟨b, o, s, a', c', rfl, hbn, hs, hwf, hc1, hc2, hA'⟩ := (HA.out.below hw).elem (i := k) (by rw [HL.out]; exact hlt)
          have hs1 : wr.heap.size ≥ w.heap.size + 1 := by have := HB.out.size; simpa using this
          have hsN : s.size ≤ N := by have := T.size_lt_of_mem hs; have := HS.out; omega
          have HSS := Lib.hid hs
          have HA' := Lib.hid hA'
          clear hs hA' hw hwf
          go_wp2_with fail
          rw [show ((most : Int) - (m : Int)) = ((most - m : Nat) : Int) from by omega]
          refine (IH.out s hsN (most - m) n₀ a' c' wr (by omega) (by omega) HA'.out).mono ?_
          rintro e w2 ⟨rfl, hB2⟩
          generalize hr : min s.size (most - m + 1) = r
          have hrb : r ≤ 501 := by omega
          have HR := Lib.hid hr
          have HB2 := Lib.hid hB2
          clear hr hB2
          go_wp2
          go_roundw
          case rel =>
            refine ⟨k + 1, by omega, by go_num, ?_, HB.out.trans (HB2.out.mono (by omega))⟩
            have h1 := HM.out
            have h2 := HR.out
            have h3 := T.sizes_take HSS.out
            rw [show ((m : Int) + (r : Int)) = ((m + r : Nat) : Int) from by omega]
            exact congrArg (fun x : Nat => Value.int .i64 (x : Int)) (by omega)
          case measure => simp [intOf]; omega
        · go_wp2
          go_ret
          refine ⟨?_, (((Below.refl w.heap.size w).alloc (Nat.le_refl _) _).trans (HB.out.mono (by omega)))⟩
          have h1 := HM.out
          have h2 := HS.out
          have h3 := T.sizes_append (t.args.take k) (t.args.drop k)
          rw [List.take_append_drop] at h3
          exact congrArg (fun x : Nat => Ending.returned (.int .i64 (x : Int))) (by omega)
      · go_wp2
        go_ret
        refine ⟨?_, (((Below.refl w.heap.size w).alloc (Nat.le_refl _) _).trans (HB.out.mono (by omega)))⟩
        have h1 := HM.out
        have h2 := HS.out
        rw [List.take_of_length_le (by have := HL.out; omega)] at h1
        exact congrArg (fun x : Nat => Ending.returned (.int .i64 (x : Int))) (by omega)
end Go.Proofs.YtpncmdlbmnmahaaGreat

/- Lt0: of Lat, what names no reference. -/
/- Memory of variables; rows of numbers and append. -/
namespace Go.Proofs.YtpncmdlbmnmahaaGreat
set_option linter.unusedVariables false
set_option linter.unusedSimpArgs false
open Go.RowKit
theorem T.args_node (h : Int) (ts : List T) : (T.node h ts).args = ts := rfl
def Z0 : T := .node 0 []
end Go.Proofs.YtpncmdlbmnmahaaGreat
/- Facts on memory that last: what holds in every later world. -/
namespace Go.Proofs.YtpncmdlbmnmahaaGreat
set_option linter.unusedVariables false
set_option linter.unusedSimpArgs false
open Go.RowKit
/-- F holds in W and in every later world. -/
def Later (F : World → Prop) (W : World) : Prop := ∀ W', Below W.heap.size W W' → F W'
theorem Later.now {F : World → Prop} {W : World} (h : Later F W) : F W := h W (Below.refl _ _)
theorem Later.mv {F : World → Prop} {W W' : World} (h : Later F W) (hb : Below W.heap.size W W') : Later F W' := fun X hX => h X (hb.trans (hX.mono hb.size))
theorem Later.and {F G : World → Prop} {W : World} (h : Later F W) (k : Later G W) : Later (fun X => G X ∧ F X) W := fun X hX => ⟨k X hX, h X hX⟩
theorem Later.below {w W : World} (h : Below w.heap.size w W) : Later (fun X => Below w.heap.size w X) W := fun X hX => h.trans (hX.mono h.size)
theorem later_args {W : World} {ts : List T} {a : Option Addr} {c : Nat} (h : IsArgs W.heap.size W ts a c) : Later (fun X => IsArgs X.heap.size X ts a c) W := fun X hX => (h.below hX).mono hX.size
theorem later_is {W : World} {zs : List Int} {a : Option Addr} {c : Nat} (h : IsIs W.heap.size W zs a c) : Later (fun X => IsIs X.heap.size X zs a c) W := fun X hX => (h.below hX).mono hX.size
/-- A variable of type Term: its two cells. -/
def Vc (b : Nat) (h : Int) (a : Option Addr) (n c : Nat) (X : World) : Prop := X.cell? ⟨b, 0, none⟩ = some (.int .i64 h) ∧ X.cell? ⟨b, 1, none⟩ = some (.slice a n c)
theorem later_var (W : World) (h : Int) (a : Option Addr) (n c : Nat) : Later (Vc W.heap.size h a n c) (W.alloc (tmCells h a n c)) := fun X hX =>
  ⟨(hX.cell (p := ⟨W.heap.size, 0, none⟩) (by simp)).trans (by simp [go_sem]), (hX.cell (p := ⟨W.heap.size, 1, none⟩) (by simp)).trans (by simp [go_sem])⟩
/-- A new variable of type Term, laid in a later world. -/
theorem Later.push {F : World → Prop} {W W' : World} (k : Later F W) (hb : Below W.heap.size W W') (h : Int) (a : Option Addr) (n c : Nat) : Later (fun X => Vc W'.heap.size h a n c X ∧ F X) (W'.alloc (tmCells h a n c)) :=
  (k.mv (hb.alloc hb.size _)).and (later_var W' h a n c)
theorem heap_alloc_size (W : World) (o : Obj) : (W.alloc o).heap.size = W.heap.size + 1 := by simp
end Go.Proofs.YtpncmdlbmnmahaaGreat

/- Signatures in memory: plain definitions. -/
namespace Go.Proofs.YtpncmdlbmnmahaaGreat
set_option linter.unusedVariables false
set_option linter.unusedSimpArgs false
open Go.RowKit
structure Sy where
  name : ByteArray
  ar : Int
  wt : Int
  tr : Bool
  deriving DecidableEq
abbrev Sg := List Sy
def Sy.cells (x : Sy) : List Value := [.string x.name, .int .i64 x.ar, .int .i64 x.wt, .bool x.tr]
abbrev sy (x : Sy) : Value := .agg #[.string x.name, .int .i64 x.ar, .int .i64 x.wt, .bool x.tr]
def Sy.wf (x : Sy) : Prop := x.name.size ≤ maxLen ∧ (Lit.int .i64 x.ar).wf = true ∧ (Lit.int .i64 x.wt).wf = true
def IsSy (W : World) (x : Sy) (b o : Nat) : Prop :=
  x.wf ∧ W.cell? ⟨b, o, none⟩ = some (.string x.name) ∧ W.cell? ⟨b, o + 1, none⟩ = some (.int .i64 x.ar) ∧ W.cell? ⟨b, o + 2, none⟩ = some (.int .i64 x.wt) ∧ W.cell? ⟨b, o + 3, none⟩ = some (.bool x.tr)
def IsSg (n₀ : Nat) (W : World) (g : Sg) (a : Option Addr) (c : Nat) : Prop :=
  g.length ≤ c ∧ c ≤ maxLen ∧ (g = [] ∨ ∃ b o, a = some ⟨b, o, none⟩ ∧ b < n₀ ∧ ∀ (j : Nat) (x : Sy), g[j]? = some x → IsSy W x b (o + j * 4))
theorem IsSg.below {n₀ : Nat} {w w' : World} {g : Sg} {a : Option Addr} {c : Nat} (h : IsSg n₀ w g a c) (hb : Below n₀ w w') : IsSg n₀ w' g a c := by
  obtain ⟨h1, h2, h3⟩ := h
  refine ⟨h1, h2, ?_⟩
  rcases h3 with h3 | ⟨b, o, h4, h5, h6⟩
  · exact .inl h3
  · refine .inr ⟨b, o, h4, h5, fun j x hx => ?_⟩
    obtain ⟨p0, p1, p2, p3, p4⟩ := h6 j x hx
    exact ⟨p0, (hb.cell (p := ⟨b, _, none⟩) h5).trans p1, (hb.cell (p := ⟨b, _, none⟩) h5).trans p2, (hb.cell (p := ⟨b, _, none⟩) h5).trans p3, (hb.cell (p := ⟨b, _, none⟩) h5).trans p4⟩
theorem IsSg.mono {n₀ n₁ : Nat} {w : World} {g : Sg} {a : Option Addr} {c : Nat} (h : IsSg n₀ w g a c) (hn : n₀ ≤ n₁) : IsSg n₁ w g a c := by
  obtain ⟨h1, h2, h3⟩ := h
  refine ⟨h1, h2, ?_⟩
  rcases h3 with h3 | ⟨b, o, h4, h5, h6⟩
  · exact .inl h3
  · exact .inr ⟨b, o, h4, by omega, h6⟩
theorem later_sg {W : World} {g : Sg} {a : Option Addr} {c : Nat} (h : IsSg W.heap.size W g a c) : Later (fun X => IsSg X.heap.size X g a c) W := fun X hX => (h.below hX).mono hX.size
theorem IsSg.elem {n₀ : Nat} {w : World} {g : Sg} {a : Option Addr} {c : Nat} (h : IsSg n₀ w g a c) {i : Nat} (hi : i < g.length) :
    ∃ (b o : Nat) (x : Sy), a = some ⟨b, o, none⟩ ∧ b < n₀ ∧ g[i]? = some x ∧ x.wf ∧ w.cell? ⟨b, o + i * 4, none⟩ = some (.string x.name) ∧ w.cell? ⟨b, o + i * 4 + 1, none⟩ = some (.int .i64 x.ar) ∧
      w.cell? ⟨b, o + i * 4 + 2, none⟩ = some (.int .i64 x.wt) ∧ w.cell? ⟨b, o + i * 4 + 3, none⟩ = some (.bool x.tr) := by
  obtain ⟨_, _, h3⟩ := h
  rcases h3 with rfl | ⟨b, o, rfl, h4, h5⟩
  · simp at hi
  · obtain ⟨p0, p1, p2, p3, p4⟩ := h5 i _ (List.getElem?_eq_getElem hi)
    exact ⟨b, o, g[i], rfl, h4, List.getElem?_eq_getElem hi, p0, p1, p2, p3, p4⟩
/-! ### What the document says of signatures -/
/-- May the symbol not be in a signature? -/
def badSy (x : Sy) : Bool := decide (x.name.size < 1) || decide (64 < x.name.size) || decide (x.ar < 0) || decide (8 < x.ar) || decide (x.wt < 1) || decide (1000 < x.wt)
/-- The number of the first symbol of that name; -1: none. -/
def idxSy (name : ByteArray) : Sg → Option Nat
  | [] => none
  | x :: g => if x.name = name then some 0 else (idxSy name g).map (· + 1)
theorem idxSy_get {name : ByteArray} : ∀ {g : Sg} {i : Nat}, idxSy name g = some i → ∃ x, g[i]? = some x ∧ x.name = name ∧ ∀ (j : Nat) (y : Sy), j < i → g[j]? = some y → y.name ≠ name
  | [], i, h => by simp [idxSy] at h
  | x :: g, i, h => by
    simp only [idxSy] at h
    split at h
    · rename_i hx
      obtain rfl := Option.some.inj h
      exact ⟨x, rfl, hx, fun j y hj => by omega⟩
    · rename_i hx
      rw [Option.map_eq_some_iff] at h
      obtain ⟨k, hk, rfl⟩ := h
      obtain ⟨y, h1, h2, h3⟩ := idxSy_get hk
      refine ⟨y, by simpa using h1, h2, fun j z hj hz => ?_⟩
      cases j with
      | zero => simp at hz; subst hz; exact hx
      | succ j => exact h3 j z (by omega) (by simpa using hz)
theorem idxSy_none {name : ByteArray} : ∀ {g : Sg}, idxSy name g = none → ∀ x ∈ g, x.name ≠ name
  | [], h => by simp
  | x :: g, h => by
    simp only [idxSy] at h
    split at h
    · cases h
    · rename_i hx
      have := idxSy_none (Option.map_eq_none_iff.1 h)
      intro y hy
      rcases List.mem_cons.1 hy with rfl | hy
      · exact hx
      · exact this y hy
/-- Found at k, where none before has the name. -/
theorem idxSy_hit {name : ByteArray} : ∀ {g : Sg} {k : Nat} {x : Sy}, (∀ (j : Nat) (y : Sy), j < k → g[j]? = some y → y.name ≠ name) → g[k]? = some x → x.name = name → idxSy name g = some k
  | [], k, x, _, h, _ => by simp at h
  | y :: g, 0, x, _, h, hx => by simp at h; subst h; simp [idxSy, hx]
  | y :: g, k + 1, x, hno, h, hx => by
    have h0 := hno 0 y (by omega) rfl
    have := idxSy_hit (g := g) (k := k) (fun j z hj hz => hno (j + 1) z (by omega) (by simpa using hz)) (by simpa using h) hx
    simp [idxSy, h0, this]
/-- Is each symbol the first of its name? -/
def difSg (g : Sg) : Bool := (List.range g.length).all fun i => match g[i]? with
  | some x => decide (idxSy x.name g = some i)
  | none => true
def sy0 : Sy := { name := ⟨#[36, 116, 114, 117, 101]⟩, ar := 0, wt := 1, tr := true }
def rightG (g : Sg) : Bool := decide (1 ≤ g.length) && decide (g.length ≤ 256) && decide (g[0]? = some sy0) && !(g.any badSy) && difSg g
def errG (g : Sg) : Int := if rightG g then 0 else 1
/-- Do all symbols of a term stand in the signature, with as many arguments? -/
def armOk (g : Sg) (h : Int) (n : Nat) : Bool := decide (h < 0) || match g[h.toNat]? with
  | some x => decide ((n : Int) = x.ar)
  | none => false
mutual
def fitsT (g : Sg) : T → Bool
  | .node h ts => decide (h < 0) || (armOk g h ts.length && fitsL g ts)
def fitsL (g : Sg) : List T → Bool
  | [] => true
  | t :: ts => fitsT g t && fitsL g ts
end
theorem fitsT_eq (g : Sg) (t : T) : fitsT g t = (decide (t.head < 0) || (armOk g t.head t.args.length && fitsL g t.args)) := by cases t; rfl
theorem fitsL_all (g : Sg) (ts : List T) : fitsL g ts = ts.all (fitsT g) := by
  induction ts with
  | nil => rfl
  | cons t ts ih => simp [fitsL, ih]
/-- Is the symbol a predicate? -/
def predS (g : Sg) (h : Int) : Bool := decide (0 ≤ h) && match g[h.toNat]? with
  | some x => x.tr
  | none => false
mutual
def predT (g : Sg) : T → Bool
  | .node h ts => predS g h || predL g ts
def predL (g : Sg) : List T → Bool
  | [] => false
  | t :: ts => predT g t || predL g ts
end
theorem predT_eq (g : Sg) (t : T) : predT g t = (predS g t.head || predL g t.args) := by cases t; rfl
theorem predL_any (g : Sg) (ts : List T) : predL g ts = ts.any (predT g) := by
  induction ts with
  | nil => rfl
  | cons t ts ih => simp [predL, ih]
def errT (g : Sg) (t : T) : Int := if rightG g then if t.check = 0 then if fitsT g t then if predL g t.args then 10 else 0 else 1 else t.check else 1
/-- The weight of a head. -/
def wo (g : Sg) (h : Int) : Int := if h < 0 then 1 else match g[h.toNat]? with
  | some x => x.wt
  | none => 0
mutual
def wtT (g : Sg) : T → Int
  | .node h ts => wo g h + wtL g ts
def wtL (g : Sg) : List T → Int
  | [] => 0
  | t :: ts => wtT g t + wtL g ts
end
theorem wtT_eq (g : Sg) (t : T) : wtT g t = wo g t.head + wtL g t.args := by cases t; rfl
end Go.Proofs.YtpncmdlbmnmahaaGreat
