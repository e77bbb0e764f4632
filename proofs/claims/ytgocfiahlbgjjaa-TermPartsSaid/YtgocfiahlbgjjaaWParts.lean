/- The walk of TermParts. -/
import Derived.Test.YtgocfiahlbgjjaaWComp
namespace Go.Proofs.Ytgocfiahlbgjjaa
set_option linter.unusedVariables false
set_option linter.unusedSimpArgs false
open Go.RowKit

mutual
theorem bad_subs (l l' : Nat) : (t : T) → bad (T.subs l t) = bad (T.subs l' t)
  | .node h ts => by
    have h1 := bad_subss (l + 1) (l' + 1) ts
    simp only [bad, T.subs, List.any_cons] at h1 ⊢
    rw [h1]
theorem bad_subss (l l' : Nat) : (ts : List T) → bad (T.subss l ts) = bad (T.subss l' ts)
  | [] => by simp [bad, T.subss]
  | t :: ts => by
    have h1 := bad_subs l l' t
    have h2 := bad_subss l l' ts
    simp only [bad, T.subss, List.any_append] at h1 h2 ⊢
    rw [h1, h2]
end
theorem bad_of_mem {l : Nat} {ts : List T} {i : Nat} {t : T} (h : ts[i]? = some t) (hb : bad (T.subss l ts) = false) : bad (T.subs l t) = false := by
  induction ts generalizing i with
  | nil => simp at h
  | cons s ts ih =>
    simp only [bad, T.subss, List.any_append, Bool.or_eq_false_iff] at hb ih ⊢
    cases i with
    | zero => simp at h; subst h; exact hb.1
    | succ i => exact ih (by simpa using h) hb.2
theorem depth_of_mem {ts : List T} {i : Nat} {t : T} (h : ts[i]? = some t) : t.depth ≤ T.depths ts := by
  induction ts generalizing i with
  | nil => simp at h
  | cons s ts ih =>
    simp only [T.depths]
    cases i with
    | zero => simp at h; subst h; omega
    | succ i => have := ih (i := i) (by simpa using h); omega
theorem check_of_mem {h : Int} {ts : List T} {i : Nat} {t : T} (hi : ts[i]? = some t) (hc : T.check (.node h ts) = 0) : T.check t = 0 := by
  have h1 := T.size_lt_of_mem hi
  have h2 := depth_of_mem hi
  unfold T.check at hc ⊢
  by_cases q1 : 400 < (T.node h ts).size
  · rw [if_pos q1] at hc; cases hc
  · rw [if_neg q1] at hc
    by_cases q2 : 40 < (T.node h ts).depth
    · rw [if_pos q2] at hc; cases hc
    · rw [if_neg q2] at hc
      simp only [T.size, T.depth] at q1 q2
      cases q3 : bad (T.subs 1 (.node h ts)) with
      | true => rw [q3] at hc; cases hc
      | false =>
        have h3 : bad (T.subss 2 ts) = false := by
          simp only [bad, T.subs, List.any_cons, Bool.or_eq_false_iff] at q3 ⊢
          exact q3.2
        rw [if_neg (by omega), if_neg (by omega), bad_subs 1 2, bad_of_mem hi h3]; rfl
theorem T.depths_take {ts : List T} {i : Nat} {t : T} (h : ts[i]? = some t) : T.depths (ts.take (i + 1)) = max (T.depths (ts.take i)) t.depth := by
  induction ts generalizing i with
  | nil => simp at h
  | cons s ts ih =>
    cases i with
    | zero => simp at h; subst h; simp [T.depths]
    | succ i =>
      have := ih (i := i) (by simpa using h)
      simp only [List.take_succ_cons, T.depths, this]; omega
mutual
theorem T.depth_le_size : (t : T) → t.depth ≤ t.size
  | .node h ts => by have := T.depths_le_sizes ts; simp only [T.depth, T.size]; omega
theorem T.depths_le_sizes : (ts : List T) → T.depths ts ≤ T.sizes ts
  | [] => by simp [T.depths, T.sizes]
  | t :: ts => by have := T.depth_le_size t; have := T.depths_le_sizes ts; simp only [T.depths, T.sizes]; omega
end

def PartsI (ts : List T) (w : World) (n d i : Value) (wr : World) : Prop :=
  ∃ k : Nat, k ≤ ts.length ∧ k ≤ 30 ∧ i = .int .i64 k ∧ n = .int .i64 ((1 + T.sizes (ts.take k) : Nat) : Int) ∧ d = .int .i64 ((T.depths (ts.take k) : Nat) : Int) ∧ (∀ (j : Nat) (t : T), j < k → ts[j]? = some t → t.size ≤ 500) ∧ T.sizes (ts.take k) ≤ 500 * k ∧ Below w.heap.size w wr
def PartsJ (ts : List T) (w : World) (i : Value) (wr : World) : Prop := ∃ k : Nat, k ≤ ts.length ∧ i = .int .i64 k ∧ Below w.heap.size w wr

set_option maxRecDepth 100000 in
set_option maxHeartbeats 8000000 in
theorem termParts_walk (head : Int) (ts : List T) (a : Option Addr) (c : Nat) (w : World) (hhw : (Lit.int .i64 head).wf = true) (hA : IsArgs w.heap.size w ts a c) :
    Calls Try.prog 5 #[.int .i64 head, .slice a ts.length c] w fun e w' => e = .returned (.bool true) ∧ Below w.heap.size w w' := by
  have hlc : ts.length ≤ c ∧ c ≤ maxLen := ⟨hA.1, hA.2.1⟩
  unfold maxLen at hlc
  obtain ⟨hl1, hl2⟩ := hlc
  have HH := Lib.hid hhw
  have HA := Lib.hid hA
  clear hA hhw
  go_enter Try.func5, Try.ntmps5
  go_wp2
  go_loopw [5, 6, 7] (fun n d i wr => PartsI ts w n d i wr) (fun _ _ i _ => 30 - (intOf i).toNat)
  case atStart => exact ⟨0, Nat.zero_le _, Nat.zero_le _, rfl, by simp [T.sizes], by simp [T.depths], fun j t h => by omega, by simp [T.sizes], Below.refl _ _⟩
  case round =>
    obtain ⟨k, hk, hk30, rfl, rfl, rfl, hall, hsz, hB⟩ := hrel
    have HALL := Lib.hid hall
    have hdz := T.depths_le_sizes (ts.take k)
    generalize hS : T.sizes (ts.take k) = S at *
    generalize hD : T.depths (ts.take k) = D at *
    have HS := Lib.hid hS
    have HD := Lib.hid hD
    have HB := Lib.hid hB
    clear hall hS hD
    by_cases hlt : k < ts.length
    · by_cases hlt2 : k < 30
      · obtain ⟨b, o, s, a', c', rfl, hbn, hs, hwf, hc1, hc2, hA'⟩ := (HA.out.below hB).elem (i := k) hlt
        have hsz1 := hB.size
        have HWF := Lib.hid hwf
        have HA' := Lib.hid hA'
        have HSS := Lib.hid hs
        have HC1 := Lib.hid hc1
        have HC2 := Lib.hid hc2
        clear hwf hA' hs hB
        go_wp2_with fail
        refine (few_any s w.heap.size a' c' wr hsz1 HA'.out).mono ?_
        rintro e w2 ⟨rfl, hb2⟩
        by_cases hf : s.size ≤ 500
        · rw [show decide (s.size ≤ 500) = true from by simpa using hf]
          clear hc1 hc2
          have hc1 := (hb2.cell (p := ⟨b, o + k * 2, none⟩) (by simp; omega)).trans HC1.out
          have hc2 := (hb2.cell (p := ⟨b, o + k * 2 + 1, none⟩) (by simp; omega)).trans HC2.out
          have hz2 := hb2.size
          have B2 := Lib.hid hb2
          clear hb2
          go_wp2_with fail
          refine (size_any s (by omega) w.heap.size a' c' w2 (by omega) HWF.out (HA'.out.below (B2.out.mono hsz1))).mono ?_
          rintro e w3 ⟨rfl, hb3⟩
          clear hc1 hc2
          have hb3 := B2.out.trans (hb3.mono B2.out.size)
          have hc1 := (hb3.cell (p := ⟨b, o + k * 2, none⟩) (by simp; omega)).trans HC1.out
          have hc2 := (hb3.cell (p := ⟨b, o + k * 2 + 1, none⟩) (by simp; omega)).trans HC2.out
          have hz3 := hb3.size
          have B3 := Lib.hid hb3
          clear hb3 B2
          go_wp2_with fail
          refine (depth_any s (by omega) w.heap.size a' c' w3 (by omega) HWF.out (HA'.out.below (B3.out.mono hsz1))).mono ?_
          rintro e w4 ⟨rfl, hb4⟩
          have B4 := Lib.hid (HB.out.trans ((B3.out.trans (hb4.mono B3.out.size)).mono hsz1))
          have hds := T.depth_le_size s
          clear hc1 hc2 hb4
          go_wp2
          all_goals
            go_roundw
            case rel =>
              have h1 := T.sizes_take HSS.out
              have h2 := T.depths_take HSS.out
              have h3 := HS.out
              have h4 := HD.out
              refine ⟨k + 1, by omega, by omega, by go_num, ?_, ?_, ?_, by omega, B4.out⟩
              · rw [h1, h3]
                exact congrArg (fun x : Int => Value.int .i64 x) (by omega)
              · rw [h2, h4]
                exact congrArg (fun x : Int => Value.int .i64 x) (by omega)
              · intro j t hj ht
                by_cases hjk : j < k
                · exact HALL.out j t hjk ht
                · obtain rfl : j = k := by omega
                  have := HSS.out
                  rw [ht] at this
                  obtain rfl := Option.some.inj this
                  exact hf
            case measure => simp [intOf]; omega
        · rw [show decide (s.size ≤ 500) = false from by simpa using hf]
          have B2 := Lib.hid (HB.out.trans (hb2.mono hsz1))
          clear hb2
          go_wp2
          go_ret
          exact ⟨rfl, B2.out⟩
      · have hbig : 30 ≤ ts.length := by omega
        by_cases hbig2 : 30 < ts.length
        · clear hB
          go_wp2
          go_ret
          exact ⟨rfl, HB.out⟩
        · omega
    · by_cases hbig : 30 < ts.length
      · omega
      · obtain rfl : k = ts.length := by omega
        have hS := HS.out
        have hD := HD.out
        rw [List.take_length] at hS hD
        have HALL2 := Lib.hid HALL.out
        clear hlt hk HALL HS HD
        have HSz := Lib.hid hS
        have HDz := Lib.hid hD
        have hz := hB.size
        have hb5 : Below w.heap.size w (wr.alloc (tmCells head a ts.length c)) := hB.alloc hz _
        have ex : ∀ W, Below (wr.alloc (tmCells head a ts.length c)).heap.size (wr.alloc (tmCells head a ts.length c)) W → W.cell? ⟨wr.heap.size, 0, none⟩ = some (.int .i64 head) ∧ W.cell? ⟨wr.heap.size, 1, none⟩ = some (.slice a ts.length c) ∧ Below w.heap.size w W := fun W hW =>
          ⟨(hW.cell (p := ⟨wr.heap.size, 0, none⟩) (by simp)).trans (by simp [go_sem]), (hW.cell (p := ⟨wr.heap.size, 1, none⟩) (by simp)).trans (by simp [go_sem]), hb5.trans (hW.mono hb5.size)⟩
        have EX := Lib.hid ex
        clear ex hb5 hS hD hB
        go_wp2_with fail
        have hnode : T.size (.node head ts) ≤ 1000000 := by simp only [T.size]; have := HSz.out; omega
        have cSz : ∀ W, Below (wr.alloc (tmCells head a ts.length c)).heap.size (wr.alloc (tmCells head a ts.length c)) W → Calls Try.prog 18 #[tm head a ts.length c] W fun e w' => e = .returned (.int .i64 ((1 + S : Nat) : Int)) ∧ Below W.heap.size W w' := fun W hW => by
          have hq := (EX.out W hW).2.2
          have := size_any (.node head ts) hnode w.heap.size a c W hq.size HH.out (HA.out.below hq)
          rw [T.size, HSz.out] at this
          exact this
        have cDp : ∀ W, Below (wr.alloc (tmCells head a ts.length c)).heap.size (wr.alloc (tmCells head a ts.length c)) W → Calls Try.prog 19 #[tm head a ts.length c] W fun e w' => e = .returned (.int .i64 ((D : Int) + 1)) ∧ Below W.heap.size W w' := fun W hW => by
          have hq := (EX.out W hW).2.2
          have := depth_any (.node head ts) hnode w.heap.size a c W hq.size HH.out (HA.out.below hq)
          rw [T.depth, HDz.out] at this
          exact this
        have cCk : ∀ W, Below (wr.alloc (tmCells head a ts.length c)).heap.size (wr.alloc (tmCells head a ts.length c)) W → Calls Try.prog 20 #[tm head a ts.length c] W fun e w' => e = .returned (.int .i64 (T.check (.node head ts))) ∧ Below W.heap.size W w' := fun W hW => by
          have hq := (EX.out W hW).2.2
          exact check_any (.node head ts) hnode w.heap.size a c W hq.size HH.out (HA.out.below hq)
        have CSZ := Lib.hid cSz
        have CDP := Lib.hid cDp
        have CCK := Lib.hid cCk
        have HN := Lib.hid hnode
        clear cSz cDp cCk hnode HB
        generalize hW5 : wr.alloc (tmCells head a ts.length c) = w5 at EX CSZ CDP CCK ⊢
        generalize hB5 : wr.heap.size = b5 at EX CSZ CDP CCK ⊢
        have hz5 : w.heap.size ≤ b5 ∧ b5 < w5.heap.size := by rw [← hB5, ← hW5]; simp; omega
        obtain ⟨hz5, hz6⟩ := hz5
        clear hW5 hB5 hz
        refine (CSZ.out w5 (Below.refl _ _)).mono ?_
        rintro e w6 ⟨rfl, hb6⟩
        obtain ⟨e1, e2, _⟩ := EX.out w6 hb6
        have B6 := Lib.hid hb6
        clear hb6
        go_wp2_with fail
        refine (CDP.out w6 B6.out).mono ?_
        rintro e w7 ⟨rfl, hb7⟩
        have B7 := Lib.hid (B6.out.trans (hb7.mono B6.out.size))
        clear hb7 e1 e2 B6
        go_wp2
        go_loopw [9] (fun i W => PartsJ ts w5 i W) (fun i _ => ts.length - (intOf i).toNat)
        case atStart => exact ⟨0, Nat.zero_le _, rfl, B7.out⟩
        case round =>
          obtain ⟨k, hk, rfl, hB⟩ := hrel
          have HB := Lib.hid hB
          obtain ⟨e1, e2, hw⟩ := EX.out wr hB
          by_cases hlt : k < ts.length
          · obtain ⟨b, o, s, a', c', rfl, hbn, hs, hwf, hc1, hc2, hA'⟩ := (HA.out.below hw).elem (i := k) hlt
            have hs5 := HALL2.out k s hlt hs
            have hss := T.size_lt_of_mem hs
            have hlts : s.size < T.size (.node head ts) := by simp only [T.size]; omega
            have hck := fun hh => check_of_mem (h := head) hs hh
            have c1 : ∀ W, Below wr.heap.size wr W → Calls Try.prog 16 #[tm s.head a' s.args.length c', tm head (some ⟨b, o, none⟩) ts.length c] W fun e w' => e = .returned (.int .i64 (-1)) ∧ Below W.heap.size W w' := fun W hW => by
              have hq := (EX.out W (HB.out.trans (hW.mono HB.out.size))).2.2
              have := compare_any s (.node head ts) (by omega) HN.out w.heap.size a' c' (some ⟨b, o, none⟩) c W hq.size hwf HH.out (hA'.below (hW.mono hw.size)) (HA.out.below hq)
              rw [T.cmp_of_size hlts] at this
              exact this
            have c2 : ∀ W, Below wr.heap.size wr W → Calls Try.prog 14 #[tm s.head a' s.args.length c', tm head (some ⟨b, o, none⟩) ts.length c] W fun e w' => e = .returned (.bool false) ∧ Below W.heap.size W w' := fun W hW => by
              have hq := (EX.out W (HB.out.trans (hW.mono HB.out.size))).2.2
              have := same_any s (.node head ts) (by omega) w.heap.size a' c' (some ⟨b, o, none⟩) c W hq.size hwf HH.out (hA'.below (hW.mono hw.size)) (HA.out.below hq)
              rw [show sameB s (.node head ts) = false from by
                cases hv : sameB s (.node head ts) with
                | false => rfl
                | true => rw [sameB_iff] at hv; rw [hv] at hlts; omega] at this
              exact this
            have c3 : ∀ W, Below wr.heap.size wr W → Calls Try.prog 20 #[tm head (some ⟨b, o, none⟩) ts.length c] W fun e w' => e = .returned (.int .i64 (T.check (.node head ts))) ∧ Below W.heap.size W w' := fun W hW => CCK.out W (HB.out.trans (hW.mono HB.out.size))
            have c4 : ∀ W, Below wr.heap.size wr W → Calls Try.prog 20 #[tm s.head a' s.args.length c'] W fun e w' => e = .returned (.int .i64 (T.check s)) ∧ Below W.heap.size W w' := fun W hW =>
              check_any s (by omega) w.heap.size a' c' W (Nat.le_trans hw.size hW.size) hwf (hA'.below (hW.mono hw.size))
            have HCK := Lib.hid hck
            generalize T.check (.node head ts) = q at c3 hck HCK
            generalize T.check s = r at c4 hck HCK
            have hlen : b < wr.heap.size := by have := hw.size; omega
            have hlb : b5 < wr.heap.size := by have := HB.out.size; omega
            have C1 := Lib.hid c1
            have C2 := Lib.hid c2
            have C4 := Lib.hid c4
            have C3 := Lib.hid c3
            clear c1 c2 c3 c4 hck hA' hwf hs hw hB hss hlts hs5
            by_cases hq : q = 0
            · subst hq
              obtain rfl := HCK.out rfl
              go_wp2
              have f1 := fun d os => cell_regrown e1 d os
              have f2 := fun d os => cell_regrown e2 d os
              have f3 := fun d os => cell_regrown hc1 d os
              have f4 := fun d os => cell_regrown hc2 d os
              refine wp_region_quiet_below (by kernel_rfl) (by kernel_rfl) ?_
              repeat (quiet_step (first | with_reducible exact Calls.regrown_of (C1.out _ (below_regrown _ _ _)) | with_reducible exact Calls.regrown_of (C2.out _ (below_regrown _ _ _)) | with_reducible exact Calls.regrown_of (C3.out _ (below_regrown _ _ _)) | with_reducible exact Calls.regrown_of (C4.out _ (below_regrown _ _ _))))
              refine wpQuiet_nil ?_
              intro _ hw'
              obtain ⟨⟨dq, osq⟩, hw''⟩ := hw'
              subst hw''
              go_wp2
              go_roundw
              case rel => exact ⟨k + 1, by omega, by go_num, HB.out.trans ((below_regrown wr dq osq).mono HB.out.size)⟩
              case measure => simp [intOf]; omega
            · have hq1 : (q == 0) = false := by simpa using hq
              go_wp2
              have f1 := fun d os => cell_regrown e1 d os
              have f2 := fun d os => cell_regrown e2 d os
              have f3 := fun d os => cell_regrown hc1 d os
              have f4 := fun d os => cell_regrown hc2 d os
              refine wp_region_quiet_below (by kernel_rfl) (by kernel_rfl) ?_
              repeat (quiet_step (first | with_reducible exact Calls.regrown_of (C1.out _ (below_regrown _ _ _)) | with_reducible exact Calls.regrown_of (C2.out _ (below_regrown _ _ _)) | with_reducible exact Calls.regrown_of (C3.out _ (below_regrown _ _ _)) | with_reducible exact Calls.regrown_of (C4.out _ (below_regrown _ _ _))))
              refine wpQuiet_nil ?_
              intro _ hw'
              obtain ⟨⟨dq, osq⟩, hw''⟩ := hw'
              subst hw''
              go_wp2
              go_roundw
              case rel => exact ⟨k + 1, by omega, by go_num, HB.out.trans ((below_regrown wr dq osq).mono HB.out.size)⟩
              case measure => simp [intOf]; omega
          · clear e1 e2 hB
            have HWW := Lib.hid hw
            clear hw
            go_wp2_with fail
            refine (awake_any wr).mono ?_
            rintro e w8 ⟨rfl, hb8⟩
            have HW8 := Lib.hid (HWW.out.trans (hb8.mono HWW.out.size))
            clear hb8
            go_wp2
            go_ret
            exact ⟨rfl, HW8.out⟩

end Go.Proofs.Ytgocfiahlbgjjaa
