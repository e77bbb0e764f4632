/- Contracts of Size and Depth: loops over the iterator of subterms. -/
import Derived.Test.YtgocfiahlbgjjaaSub
namespace Go.Proofs.Ytgocfiahlbgjjaa
set_option linter.unusedVariables false
set_option linter.unusedSimpArgs false
open Go.RowKit Go.Shelf
attribute [local go_sem] Oper.semAt_some

theorem fold2 (t : Array Value) (p q : Tmp) (u v : Value) : (#[p, q].zip #[u, v]).foldl (fun t (x : Tmp × Value) => t.setIfInBounds x.1 x.2) t = (t.setIfInBounds p u).setIfInBounds q v := by simp

set_option maxRecDepth 100000 in
set_option maxHeartbeats 2000000 in
theorem size_any (t : T) (ht : t.size ≤ 1000000) (n₀ : Nat) (a : Option Addr) (c : Nat) (w : World) (hn : n₀ ≤ w.heap.size) (hwf : (Lit.int .i64 t.head).wf = true) (hA : IsArgs n₀ w t.args a c) :
    Calls Try.prog 18 #[tm t.head a t.args.length c] w fun e w' => e = .returned (.int .i64 (t.size : Nat)) ∧ Below w.heap.size w w' := by
  have HA := Lib.hid (hA.mono hn)
  clear hA hn n₀
  refine (callsIn_wide (n := 9)).1 ?_
  refine callsIn_of_wp_marks Try.func18 rfl trivial ?_ rfl
  simp only [Try.ntmps18, List.size_toArray, List.length_cons, List.length_nil, Nat.reduceAdd, Nat.reduceSub, Array.replicate_succ, Array.replicate_zero, List.push_toArray, List.append_toArray, List.nil_append, List.cons_append]
  gi_wp2_with (refine ⟨trivial, ?_⟩; gi_at_call 48; refine (callsIn_wide.2 (subterms_any _ _ _ _ _)).mono ?_; rintro e w' ⟨rfl, rfl⟩)
  have hB3 : Below w.heap.size w (((w.alloc (tmCells t.head a t.args.length c)).alloc (.cells #[.int .i64 0] 3)).alloc (tmCells t.head a t.args.length c)) := (((Below.refl _ w).alloc (Nat.le_refl _) _).alloc (by simp) _).alloc (by simp; omega) _
  have f1 : (((w.alloc (tmCells t.head a t.args.length c)).alloc (.cells #[.int .i64 0] 3)).alloc (tmCells t.head a t.args.length c)).cell? ⟨w.heap.size + 1, 0, none⟩ = some (.int .i64 0) := by simp [go_sem]
  have f2 : (((w.alloc (tmCells t.head a t.args.length c)).alloc (.cells #[.int .i64 0] 3)).alloc (tmCells t.head a t.args.length c)).frozen? ⟨w.heap.size + 1, 0, none⟩ = false := by simp [go_sem]
  have f3 : (((w.alloc (tmCells t.head a t.args.length c)).alloc (.cells #[.int .i64 0] 3)).alloc (tmCells t.head a t.args.length c)).cell? ⟨w.heap.size + 1 + 1, 0, none⟩ = some (.int .i64 t.head) := by simp [go_sem]
  have f4 : (((w.alloc (tmCells t.head a t.args.length c)).alloc (.cells #[.int .i64 0] 3)).alloc (tmCells t.head a t.args.length c)).cell? ⟨w.heap.size + 1 + 1, 1, none⟩ = some (.slice a t.args.length c) := by simp [go_sem]
  have hs : (((w.alloc (tmCells t.head a t.args.length c)).alloc (.cells #[.int .i64 0] 3)).alloc (tmCells t.head a t.args.length c)).heap.size = w.heap.size + 3 := by simp
  generalize (((w.alloc (tmCells t.head a t.args.length c)).alloc (.cells #[.int .i64 0] 3)).alloc (tmCells t.head a t.args.length c)) = W3 at *
  refine wpIn_rangeB rfl (by omega) (gf := 60) (lb := #[.pointer (some ⟨w.heap.size + 1 + 1, 0, none⟩)]) rfl trivial (enters_of Try.func60 (by kernel_rfl) rfl)
    (subterms_seq Fence.wide 8 trivial rfl (by omega) t ht (w.heap.size + 1 + 1) w.heap.size a c W3 (by omega) (by omega) hwf f3 f4 (HA.out.below hB3)) (Below.refl _ _) (by omega) (fun _ _ _ _ h => h.size) (fun _ _ _ _ _ h hb => h.below hb)
    (fun pre W => W.cell? ⟨w.heap.size + 1, 0, none⟩ = some (.int .i64 (pre.length : Nat)) ∧ W.frozen? ⟨w.heap.size + 1, 0, none⟩ = false ∧ Below w.heap.size w W)
    (fun _ _ _ => False)
    (fun pre X Y h hb => ⟨(hb.cell (p := ⟨w.heap.size + 1, 0, none⟩) (by simp; omega)).trans h.1, (hb.frozen (p := ⟨w.heap.size + 1, 0, none⟩) (by simp; omega)).trans h.2.1, h.2.2.trans (hb.mono (by omega))⟩)
    (fun _ _ _ _ h _ => h)
    ⟨f1, f2, hB3⟩
    (fun _ _ a' _ => ∃ u v, a' = { tmps := #[tm t.head a t.args.length c, Value.pointer (some ⟨w.heap.size, 0, none⟩), Value.int IntKind.i64 0, Value.pointer (some ⟨w.heap.size + 1, 0, none⟩), Value.agg #[Value.int IntKind.i64 t.head, Value.slice a t.args.length c], Value.func (Fn.func 60) #[] #[Value.pointer (some ⟨w.heap.size + 1 + 1, 0, none⟩)], u, v, undef, undef, undef], defers := [] })
    (fun _ _ _ _ _ _ _ _ _ _ h => h) ?assign ?body ?done ?stop
  case assign =>
    rintro l pre x vs W K hsz hi ⟨_, _, a1, c1, rfl, _⟩ hK
    gi_wp2
    exact hK _ _ (Kept.refl _ _ _) hi ⟨.int .i64 x.1, tm x.2.head a1 x.2.args.length c1, by simp⟩
  case body =>
    rintro l pre x vs a' W hsz ⟨hc, hf, hb⟩ hm ⟨u, v, rfl⟩
    have hlen : pre.length < t.size := hm.length
    clear hm
    gi_wp2
    refine ⟨(Kept.refl _ _ _).setCell (p := ⟨w.heap.size + 1, 0, none⟩) (by simp) (.inl (by simp; omega)) _, ?_, ?_, hb.setCell (p := ⟨w.heap.size + 1, 0, none⟩) (by simp) _⟩
    · rw [World.cell?_setCell_same' _ _ _ (by rw [hc]; rfl)]; simp
    · rw [World.frozen?_setCell]; exact hf
  case done =>
    rintro D xs W hD rfl ⟨hc, hf, hb⟩ hK
    gi_wp2
    refine ⟨by simp, .inl ⟨_, _, rfl, run_takeDeferred hK, ?_⟩⟩
    refine ⟨_, results_tmp rfl _ _ _, by rw [T.subs_length]; rfl, hb.trans (below_putObj _ hK (by omega))⟩
  case stop =>
    rintro D c pre W _ _ h _
    exact h.elim

mutual
def T.depth : T → Nat
  | .node _ ts => T.depths ts + 1
def T.depths : List T → Nat
  | [] => 0
  | t :: ts => max t.depth (T.depths ts)
end
theorem T.depth_pos (t : T) : 1 ≤ t.depth := by cases t; simp [T.depth]
def mx (m : Nat) (pre : List (Nat × T)) : Nat := pre.foldl (fun m x => max m x.1) m
mutual
theorem mx_subs (m l : Nat) (hl : 1 ≤ l) (hm : l ≤ m + 1) : (t : T) → mx m (T.subs l t) = max m (l + t.depth - 1)
  | .node h ts => by
    have h1 := mx_subss (max m l) (l + 1) (by omega) (by omega) ts
    simp only [mx, T.subs, List.foldl_cons, T.depth] at h1 ⊢
    rw [h1]; omega
theorem mx_subss (m l : Nat) (hl : 1 ≤ l) (hm : l ≤ m + 1) : (ts : List T) → mx m (T.subss l ts) = max m (l + T.depths ts - 1)
  | [] => by simp [mx, T.subss, T.depths]; omega
  | t :: ts => by
    have h1 := mx_subs m l hl hm t
    have h2 := mx_subss (max m (l + t.depth - 1)) l hl (by omega) ts
    simp only [mx, T.subss, List.foldl_append, T.depths] at h1 h2 ⊢
    rw [h1, h2]; omega
end
theorem mx_all (t : T) : mx 0 (T.subs 1 t) = t.depth := by rw [mx_subs 0 1 (by omega) (by omega)]; have := t.depth_pos; omega
theorem mx_snoc (m : Nat) (pre : List (Nat × T)) (x : Nat × T) : mx m (pre ++ [x]) = max (mx m pre) x.1 := by simp [mx]

set_option maxRecDepth 100000 in
set_option maxHeartbeats 2000000 in
theorem depth_any (t : T) (ht : t.size ≤ 1000000) (n₀ : Nat) (a : Option Addr) (c : Nat) (w : World) (hn : n₀ ≤ w.heap.size) (hwf : (Lit.int .i64 t.head).wf = true) (hA : IsArgs n₀ w t.args a c) :
    Calls Try.prog 19 #[tm t.head a t.args.length c] w fun e w' => e = .returned (.int .i64 (t.depth : Nat)) ∧ Below w.heap.size w w' := by
  have HA := Lib.hid (hA.mono hn)
  clear hA hn n₀
  refine (callsIn_wide (n := 9)).1 ?_
  refine callsIn_of_wp_marks Try.func19 rfl trivial ?_ rfl
  simp only [Try.ntmps19, List.size_toArray, List.length_cons, List.length_nil, Nat.reduceAdd, Nat.reduceSub, Array.replicate_succ, Array.replicate_zero, List.push_toArray, List.append_toArray, List.nil_append, List.cons_append]
  gi_wp2_with (refine ⟨trivial, ?_⟩; gi_at_call 48; refine (callsIn_wide.2 (subterms_any _ _ _ _ _)).mono ?_; rintro e w' ⟨rfl, rfl⟩)
  have hB3 : Below w.heap.size w (((w.alloc (tmCells t.head a t.args.length c)).alloc (.cells #[.int .i64 0] 3)).alloc (tmCells t.head a t.args.length c)) := (((Below.refl _ w).alloc (Nat.le_refl _) _).alloc (by simp) _).alloc (by simp; omega) _
  have f1 : (((w.alloc (tmCells t.head a t.args.length c)).alloc (.cells #[.int .i64 0] 3)).alloc (tmCells t.head a t.args.length c)).cell? ⟨w.heap.size + 1, 0, none⟩ = some (.int .i64 0) := by simp [go_sem]
  have f2 : (((w.alloc (tmCells t.head a t.args.length c)).alloc (.cells #[.int .i64 0] 3)).alloc (tmCells t.head a t.args.length c)).frozen? ⟨w.heap.size + 1, 0, none⟩ = false := by simp [go_sem]
  have f3 : (((w.alloc (tmCells t.head a t.args.length c)).alloc (.cells #[.int .i64 0] 3)).alloc (tmCells t.head a t.args.length c)).cell? ⟨w.heap.size + 1 + 1, 0, none⟩ = some (.int .i64 t.head) := by simp [go_sem]
  have f4 : (((w.alloc (tmCells t.head a t.args.length c)).alloc (.cells #[.int .i64 0] 3)).alloc (tmCells t.head a t.args.length c)).cell? ⟨w.heap.size + 1 + 1, 1, none⟩ = some (.slice a t.args.length c) := by simp [go_sem]
  have hs : (((w.alloc (tmCells t.head a t.args.length c)).alloc (.cells #[.int .i64 0] 3)).alloc (tmCells t.head a t.args.length c)).heap.size = w.heap.size + 3 := by simp
  generalize (((w.alloc (tmCells t.head a t.args.length c)).alloc (.cells #[.int .i64 0] 3)).alloc (tmCells t.head a t.args.length c)) = W3 at *
  refine wpIn_rangeB rfl (by omega) (gf := 60) (lb := #[.pointer (some ⟨w.heap.size + 1 + 1, 0, none⟩)]) rfl trivial (enters_of Try.func60 (by kernel_rfl) rfl)
    (subterms_seq Fence.wide 8 trivial rfl (by omega) t ht (w.heap.size + 1 + 1) w.heap.size a c W3 (by omega) (by omega) hwf f3 f4 (HA.out.below hB3)) (Below.refl _ _) (by omega) (fun _ _ _ _ h => h.size) (fun _ _ _ _ _ h hb => h.below hb)
    (fun pre W => W.cell? ⟨w.heap.size + 1, 0, none⟩ = some (.int .i64 (mx 0 pre : Nat)) ∧ W.frozen? ⟨w.heap.size + 1, 0, none⟩ = false ∧ Below w.heap.size w W)
    (fun _ _ _ => False)
    (fun pre X Y h hb => ⟨(hb.cell (p := ⟨w.heap.size + 1, 0, none⟩) (by simp; omega)).trans h.1, (hb.frozen (p := ⟨w.heap.size + 1, 0, none⟩) (by simp; omega)).trans h.2.1, h.2.2.trans (hb.mono (by omega))⟩)
    (fun _ _ _ _ h _ => h)
    ⟨f1, f2, hB3⟩
    (fun x _ a' _ => ∃ v, a' = { tmps := #[tm t.head a t.args.length c, Value.pointer (some ⟨w.heap.size, 0, none⟩), Value.int IntKind.i64 0, Value.pointer (some ⟨w.heap.size + 1, 0, none⟩), Value.int .i64 x.1, Value.agg #[Value.int IntKind.i64 t.head, Value.slice a t.args.length c], Value.func (Fn.func 60) #[] #[Value.pointer (some ⟨w.heap.size + 1 + 1, 0, none⟩)], Value.int .i64 x.1, v, undef, undef, undef, undef], defers := [] })
    (fun _ _ _ _ _ _ _ _ _ _ h => h) ?assign ?body ?done ?stop
  case assign =>
    rintro l pre x vs W K hsz hi ⟨_, _, a1, c1, rfl, _⟩ hK
    simp only [fold2, List.setIfInBounds_toArray, List.set]
    gi_wp2
    exact hK _ _ (Kept.refl _ _ _) hi ⟨tm x.2.head a1 x.2.args.length c1, rfl⟩
  case body =>
    rintro l pre x vs a' W hsz ⟨hc, hf, hb⟩ hm ⟨v, rfl⟩
    clear hm
    gi_wp2
    all_goals
      refine ⟨(Kept.refl _ _ _).setCell (p := ⟨w.heap.size + 1, 0, none⟩) (by simp) (.inl (by simp)) _, ?_, ?_, hb.setCell (p := ⟨w.heap.size + 1, 0, none⟩) (by simp) _⟩
      · rw [World.cell?_setCell_same' _ _ _ (by rw [hc]; rfl), mx_snoc]
        exact congrArg (fun q : Nat => some (Value.int .i64 (q : Int))) (by omega)
      · rw [World.frozen?_setCell]; exact hf
  case done =>
    rintro D xs W hD rfl ⟨hc, hf, hb⟩ hK
    gi_wp2
    refine ⟨by simp, .inl ⟨_, _, rfl, run_takeDeferred hK, ?_⟩⟩
    refine ⟨_, results_tmp rfl _ _ _, by rw [mx_all]; rfl, hb.trans (below_putObj _ hK (by omega))⟩
  case stop =>
    rintro D c pre W _ _ h _
    exact h.elim

end Go.Proofs.Ytgocfiahlbgjjaa
