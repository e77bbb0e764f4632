/- The walk of PlaceAll. -/
import Derived.Test.YtgocfiahlbgjjaaWPut
import Derived.Test.YtgocfiahlbgjjaaComp
import Derived.Test.YtgocfiahlbgjjaaRef
import Derived.Deep.RegionHeld3
namespace Go.Proofs.Ytgocfiahlbgjjaa
set_option linter.unusedVariables false
set_option linter.unusedSimpArgs false
open Go.RowKit

theorem mem_alls {ts : List T} {i : Nat} {p : List Int} (h : p ∈ T.alls i ts) : ∃ (k : Nat) (x : T) (p' : List Int), ts[k]? = some x ∧ p = ((i + k : Nat) : Int) :: p' ∧ p' ∈ x.all := by
  induction ts generalizing i with
  | nil => simp [T.alls] at h
  | cons t ts ih =>
    simp only [T.alls, List.mem_append] at h
    rcases h with h | h
    · obtain ⟨p', hp', rfl⟩ := List.mem_map.1 h
      exact ⟨0, t, p', rfl, rfl, hp'⟩
    · obtain ⟨k, x, p', h1, h2, h3⟩ := ih h
      exact ⟨k + 1, x, p', by simpa using h1, by rw [h2]; congr 2; omega, h3⟩
theorem T.all_eq (t : T) : t.all = [] :: T.alls 0 t.args := by cases t; simp [T.all, T.args]
theorem all_at : ∀ (N : Nat) (t : T), t.size ≤ N → ∀ p ∈ t.all, ∃ s, t.at p = some s ∧ ((p = [] ∧ s = t) ∨ (p ≠ [] ∧ s.size < t.size)) := by
  intro N
  induction N with
  | zero => intro t ht; have := T.size_pos t; omega
  | succ N ih =>
    intro t ht p hp
    rw [T.all_eq, List.mem_cons] at hp
    rcases hp with rfl | hp
    · exact ⟨t, rfl, .inl ⟨rfl, rfl⟩⟩
    · obtain ⟨k, x, p', h1, rfl, h3⟩ := mem_alls hp
      have hx := T.size_lt_of_mem h1
      have ht' := T.size_eq t
      obtain ⟨hk, _⟩ := List.getElem?_eq_some_iff.1 h1
      obtain ⟨s, hs, hor⟩ := ih x (by omega) p' h3
      refine ⟨s, ?_, .inr ⟨by simp, ?_⟩⟩
      · simp only [T.at, Nat.zero_add, Int.toNat_natCast, h1, Option.bind_some]
        rw [if_neg (by omega)]; exact hs
      · rcases hor with ⟨_, rfl⟩ | ⟨_, h⟩ <;> omega
mutual
theorem all_nodup : (t : T) → t.all.Nodup
  | .node h ts => by
    simp only [T.all, List.nodup_cons]
    refine ⟨fun hm => ?_, alls_nodup 0 ts⟩
    obtain ⟨_, _, _, _, e, _⟩ := mem_alls hm
    cases e
theorem alls_nodup (i : Nat) : (ts : List T) → (T.alls i ts).Nodup
  | [] => by simp [T.alls]
  | t :: ts => by
    simp only [T.alls]
    rw [List.nodup_append]
    refine ⟨?_, alls_nodup (i + 1) ts, ?_⟩
    · have h1 := all_nodup t
      have : (t.all.map (fun p => (i : Int) :: p)).Nodup := by
        rw [List.nodup_iff_pairwise_ne, List.pairwise_map]
        exact h1.imp (fun hne e => hne (by simpa using e))
      exact this
    · intro a ha b hb e
      subst e
      obtain ⟨p', _, rfl⟩ := List.mem_map.1 ha
      obtain ⟨k, x, p'', _, e, _⟩ := mem_alls hb
      simp at e
      omega
end
theorem allp_nil (t : T) : T.allp [] t = t.all := by rw [T.allp_all]; simp

theorem nodup_ne {α : Type} {l : List α} (h : l.Nodup) {i k : Nat} {x y : α} (hx : l[i]? = some x) (hy : l[k]? = some y) (hne : k < i) : x ≠ y := by
  obtain ⟨h1, e1⟩ := List.getElem?_eq_some_iff.1 hx
  obtain ⟨h2, e2⟩ := List.getElem?_eq_some_iff.1 hy
  intro e
  rw [List.nodup_iff_pairwise_ne, List.pairwise_iff_getElem] at h
  exact h k i h2 h1 hne (by rw [e1, e2, e])

def CutT (n₀ : Nat) (s : T) (wr : World) (v5 v6 : Value) (wx : World) : Prop :=
  ∃ (B : Nat) (ax : Option Addr) (cx : Nat), v5 = .pointer (some ⟨B, 0, none⟩) ∧ v6 = .bool true ∧ B < wx.heap.size ∧ wx.cell? ⟨B, 0, none⟩ = some (.int .i64 s.head) ∧ wx.cell? ⟨B, 1, none⟩ = some (.slice ax s.args.length cx) ∧ (Lit.int .i64 s.head).wf = true ∧ IsArgs n₀ wx s.args ax cx ∧ Below wr.heap.size wr wx

def AtGot (n₀ : Nat) (s : T) (w : World) (e : Ending) (w' : World) : Prop := ∃ a c, e = .returned (.tuple #[tm s.head a s.args.length c, .bool true]) ∧ (Lit.int .i64 s.head).wf = true ∧ IsArgs n₀ w' s.args a c ∧ Below w.heap.size w w'
theorem at_got {n₀ : Nat} {t s : T} {p : List Int} {w w' : World} {e : Ending} (hat : t.at p = some s) (h : AtPost n₀ t p w e w') : AtGot n₀ s w e w' := by
  rcases h with ⟨s', a, c, h1, h2, h3, h4, h5⟩ | ⟨h1, _⟩
  · rw [hat] at h1; cases h1; exact ⟨a, c, h2, h3, h4, h5⟩
  · rw [hat] at h1; cases h1

def AllI (t : T) (w4 : World) (i : Value) (wr : World) : Prop := ∃ k : Nat, k ≤ t.size ∧ i = .int .i64 k ∧ Below w4.heap.size w4 wr
def AllJ (n : Nat) (wy : World) (i : Value) (wr : World) : Prop := ∃ k : Nat, k ≤ n ∧ i = .int .i64 k ∧ Below wy.heap.size wy wr

set_option maxRecDepth 100000 in
set_option maxHeartbeats 4000000 in
theorem placeAll_walk (t : T) (a : Option Addr) (c : Nat) (w : World) (htw : (Lit.int .i64 t.head).wf = true) (hA : IsArgs w.heap.size w t.args a c) :
    Calls Try.prog 10 #[tm t.head a t.args.length c] w fun e w' => e = .returned (.bool true) ∧ Below w.heap.size w w' := by
  have HTW := Lib.hid htw
  have E := Lib.hid (var_term (Below.refl w.heap.size w) t a c hA)
  clear htw hA
  go_enter Try.func10, Try.ntmps10
  go_wp2_with fail
  generalize w.alloc (tmCells t.head a t.args.length c) = wB at E ⊢
  generalize hbt : w.heap.size = bt at E ⊢
  have HBT := Lib.hid hbt
  clear hbt
  refine (few_any t wB.heap.size a c wB (Nat.le_refl _) (E.out wB (Below.refl _ _)).2.2.2).mono ?_
  rintro e w1 ⟨rfl, hb⟩
  by_cases hx : t.size ≤ 500
  case neg =>
    rw [show decide (t.size ≤ 500) = false from by simpa using hx]
    have HQ := Lib.hid (E.out w1 hb).2.2.1
    clear hb
    go_wp2
    go_ret
    exact ⟨rfl, by rw [HBT.out]; exact HQ.out⟩
  rw [show decide (t.size ≤ 500) = true from by simpa using hx]
  have HQ := Lib.hid hb
  obtain ⟨t0, t1, _, _⟩ := E.out w1 hb
  clear hb
  go_wp2_with fail
  clear t0 t1
  refine (refSize_any t.size t (Nat.le_refl _) (by omega) w1.heap.size a c w1 (Nat.le_refl _) (E.out w1 HQ.out).2.2.2).mono ?_
  rintro e w2 ⟨rfl, hb⟩
  have hb := HQ.out.trans (hb.mono HQ.out.size)
  clear HQ
  by_cases hy : t.size ≤ 80
  case neg =>
    have hy2 : 80 < t.size := by omega
    have HQ := Lib.hid (E.out w2 hb).2.2.1
    clear hb hy
    go_wp2
    go_ret
    exact ⟨rfl, by rw [HBT.out]; exact HQ.out⟩
  have HQ := Lib.hid hb
  obtain ⟨t0, t1, _, _⟩ := E.out w2 hb
  clear hb
  go_wp2_with fail
  clear t0 t1
  refine (all_any t (by omega) w2.heap.size a c w2 (Nat.le_refl _) (E.out w2 HQ.out).2.2.2).mono ?_
  have hLl := T.allp_length [] t
  have hnd : (T.allp [] t).Nodup := by rw [allp_nil]; exact all_nodup t
  have hall : ∀ (j : Nat) (p : List Int), (T.allp [] t)[j]? = some p → ∃ s, t.at p = some s ∧ ((p = [] ∧ s = t) ∨ (p ≠ [] ∧ s.size < t.size)) := fun j p hp => all_at t.size t (Nat.le_refl _) p (by rw [← allp_nil]; exact List.mem_of_getElem? hp)
  rintro e w3 ⟨v, xs, rfl, hown, hps, hb⟩
  obtain ⟨a3, c3, rfl, hL⟩ := isLs_of_owns hown hps
  clear hown hps
  rw [hLl]
  generalize T.allp [] t = L at hLl hnd hall hL
  have hb := HQ.out.trans (hb.mono HQ.out.size)
  have HLL := Lib.hid hLl
  have HND := Lib.hid hnd
  have HAL := Lib.hid hall
  have HL := Lib.hid hL
  have hl3 : t.size ≤ c3 ∧ c3 ≤ maxLen := ⟨by rw [← hLl]; exact hL.1, hL.2.1⟩
  unfold maxLen at hl3
  obtain ⟨hl31, hl32⟩ := hl3
  clear HQ hLl hnd hall hL
  have HQ := Lib.hid hb
  obtain ⟨t0, t1, _, _⟩ := E.out w3 hb
  clear hb
  go_wp2_with fail
  clear t0 t1
  refine (size_any t (by omega) w3.heap.size a c w3 (Nat.le_refl _) HTW.out (E.out w3 HQ.out).2.2.2).mono ?_
  rintro e w4 ⟨rfl, hb⟩
  have hL4 := HL.out.below hb
  have HL4 := Lib.hid (show ∀ W, Below w4.heap.size w4 W → Below wB.heap.size wB W ∧ IsLs w3.heap.size W L a3 c3 ∧ w3.heap.size ≤ W.heap.size from fun W hW => by
    have h3 := hb.trans (hW.mono hb.size)
    exact ⟨HQ.out.trans (h3.mono HQ.out.size), HL.out.below h3, h3.size⟩)
  clear hb hL4 HL HQ
  have hne : ((t.size : Int) != (t.size : Int)) = false := by simp
  have hne2 : (t.size != t.size) = false := by simp
  go_wp2
  go_loopw [4] (fun i wr => AllI t w4 i wr) (fun i _ => t.size - (intOf i).toNat)
  case atStart => exact ⟨0, Nat.zero_le _, rfl, Below.refl _ _⟩
  case round =>
    obtain ⟨k, hk, rfl, hB⟩ := hrel
    have HB := Lib.hid hB
    by_cases hlt : k < t.size
    · obtain ⟨kB, hLW, hsz⟩ := HL4.out wr hB
      obtain ⟨b, o, p, a5, c5, rfl, hbn, hpk, hcp, hIp⟩ := hLW.elem (k := k) (by rw [HLL.out]; exact hlt)
      obtain ⟨s, hat, hor⟩ := HAL.out k p hpk
      obtain ⟨t0, t1, _, htA⟩ := E.out wr kB
      have hss := T.at_size hat
      have hbt2 : bt < wr.heap.size := World.block_lt_of_cell? wr ⟨bt, 0, none⟩ t0
      have hbw : b < wr.heap.size := by omega
      have hk0 : (0 : Int) ≤ (k : Int) := Int.natCast_nonneg _
      have hk1 : (k : Int) < (t.size : Int) := by omega
      have hca : ∀ W, Below wr.heap.size wr W → Calls Try.prog 24 #[tm t.head a t.args.length c, .slice a5 p.length c5] W (AtGot wr.heap.size s W) := fun W hW => (at_any t p wr.heap.size a c a5 c5 W hW.size HTW.out (htA.below hW) ((hIp.mono hsz).below hW)).mono (fun e w' h => at_got hat h)
      have KP := Lib.hid (show ∀ W, Below wr.heap.size wr W → W.cell? ⟨bt, 0, none⟩ = some (.int .i64 t.head) ∧ W.cell? ⟨bt, 1, none⟩ = some (.slice a t.args.length c) ∧ W.cell? ⟨b, o + k, none⟩ = some (.slice a5 p.length c5) ∧ Below wr.heap.size wr W from fun W hW => ⟨(hW.cell (p := ⟨bt, 0, none⟩) hbt2).trans t0, (hW.cell (p := ⟨bt, 1, none⟩) hbt2).trans t1, (hW.cell (p := ⟨b, o + k, none⟩) hbw).trans hcp, hW⟩)
      have CA := Lib.hid hca
      have HPK := Lib.hid hpk
      have HAT := Lib.hid hat
      have HOR := Lib.hid hor
      have HIP := Lib.hid (hIp.mono hsz)
      clear hca hpk hat hor hIp hLW kB hB htA
      go_wp2
      go_cut [5, 6] from 23 to 72 (fun v5 v6 wx => CutT wr.heap.size s wr v5 v6 wx)
      case first =>
        refine wp_region_noPanic ?_
        go_region_held3 (fun w' => w'.cell? ⟨bt, 0, none⟩ = some (.int .i64 t.head) ∧ w'.cell? ⟨bt, 1, none⟩ = some (.slice a t.args.length c) ∧ w'.cell? ⟨b, o + k, none⟩ = some (.slice a5 p.length c5) ∧ Below wr.heap.size wr w')
          (first
            | exact KP.out _ (Below.refl _ _)
            | exact KP.out _ (Below.refl _ _).drew
            | exact KP.out _ (((Below.refl _ _).alloc (Nat.le_refl _) _).drew)
            | exact KP.out _ ((Below.setCell (p := ⟨_, 1, none⟩) (Below.setCell (p := ⟨_, 0, none⟩) hB6 hz6 _) hz6 _))
            | exact KP.out _ (hB6.alloc hB6.size _)
            | exact KP.out _ hB6)
          (first
            | (go_at_call 24; refine (CA.out _ ?_).mono ?_; (exact (‹_ ∧ _ ∧ _ ∧ Below wr.heap.size wr _›).2.2.2); rintro e w6 ⟨a6, c6, rfl, hw6, hA6, hb6⟩; have hB6 : Below wr.heap.size wr w6 := Below.trans (‹_ ∧ _ ∧ _ ∧ Below wr.heap.size wr _›).2.2.2 (hb6.mono (‹_ ∧ _ ∧ _ ∧ Below wr.heap.size wr _›).2.2.2.size); have hz6 : wr.heap.size ≤ wr.heap.size := Nat.le_refl _; obtain ⟨hcc, hff⟩ := bcell hb6))
        · refine NoPanic.normal ?_
          go_wp2
          go_meet
          exact ⟨_, a6, c6, rfl, rfl, by simp, by simp [go_sem], by simp [go_sem], hw6, hA6.below ((Below.refl _ _).alloc hB6.size _), hB6.alloc hB6.size _⟩
        · refine NoPanic.normal ?_
          go_wp2
          go_meet
          have hz7 : wr.heap.size < w6.heap.size := by have := hb6.size; simp at this; omega
          refine ⟨_, a6, c6, rfl, rfl, by simpa using hz7, ?_, ?_, hw6, hA6.below (((Below.refl _ _).setCell (p := ⟨wr.heap.size, 0, none⟩) (Nat.le_refl _) _).setCell (p := ⟨wr.heap.size, 1, none⟩) (Nat.le_refl _) _), (hB6.setCell (p := ⟨wr.heap.size, 0, none⟩) (Nat.le_refl _) _).setCell (p := ⟨wr.heap.size, 1, none⟩) (Nat.le_refl _) _⟩
          · rw [World.cell?_setCell_other _ _ _ _ (by intro e; simp at e)]
            exact World.cell?_setCell_same' _ _ _ (by rw [hcc _ _ (by simp)]; simp)
          · exact World.cell?_setCell_same' _ _ _ (by rw [World.cell?_setCell_other _ _ _ _ (by intro e; simp at e), hcc _ _ (by simp)]; simp)
      case rest =>
        obtain ⟨B, ax, cx, rfl, rfl, hBx, d0, d1, dw, dA, dB⟩ := hcut
        have HBs := Lib.hid HB.out
        clear t0 t1 hcp
        obtain ⟨t0, t1, hcp, _⟩ := KP.out wc dB
        have DW := Lib.hid dw
        have DA := Lib.hid dA
        have DB := Lib.hid dB
        have dBs := dB.size
        have kB := (HL4.out wc (HB.out.trans (dB.mono HB.out.size))).1
        clear dw dA dB CA
        rcases HOR.out with ⟨hp0, hst⟩ | ⟨hp0, hst⟩
        · have hpl : p.length = 0 := by rw [hp0]; rfl
          have hcmp : T.cmp s t = 0 := by rw [hst]; exact T.cmp_self t
          rw [hpl] at hcp
          clear hp0 hst
          have HPL0 := Lib.hid hpl
          have hcp := hcp
          clear hpl
          have hc1 : ∀ W, Below wc.heap.size wc W → Calls Try.prog 16 #[tm s.head ax s.args.length cx, tm t.head a t.args.length c] W fun e w' => e = .returned (.int .i64 0) ∧ Below W.heap.size W w' := fun W hW => by
            have h := compare_any s t (by omega) (by omega) wc.heap.size ax cx a c W hW.size DW.out HTW.out ((DA.out.mono dBs).below hW) ((E.out wc kB).2.2.2.below hW)
            rw [hcmp] at h
            exact h
          have C1 := Lib.hid hc1
          clear hc1 hcmp kB dBs
          go_wp2
          have f1 := fun d os => cell_regrown t0 d os
          have f2 := fun d os => cell_regrown t1 d os
          have f3 := fun d os => cell_regrown d0 d os
          have f4 := fun d os => cell_regrown d1 d os
          have f5 := fun d os => cell_regrown hcp d os
          refine wp_region_quiet_below (by kernel_rfl) (by kernel_rfl) ?_
          repeat (quiet_step (with_reducible exact Calls.regrown_of (C1.out _ (below_regrown _ _ _))))
          refine wpQuiet_nil ?_
          intro _ hw'
          obtain ⟨⟨dq, osq⟩, hw''⟩ := hw'
          subst hw''
          have hbq := DB.out.trans ((below_regrown wc dq osq).mono DB.out.size)
          generalize Go.Sort.grow (redrawn wc dq) osq = wy at hbq ⊢
          have HBY := Lib.hid hbq
          clear hbq f1 f2 f3 f4 f5 t0 t1 d0 d1 hcp C1
          go_wp2
          go_loopw [7] (fun j W => AllJ k wy j W) (fun j _ => k - (intOf j).toNat)
          case atStart => exact ⟨0, Nat.zero_le _, rfl, Below.refl _ _⟩
          case round =>
            obtain ⟨j, hj, rfl, hBj⟩ := hrel
            have hBr := HBY.out.trans (hBj.mono HBY.out.size)
            obtain ⟨_, _, hcp, _⟩ := KP.out wr hBr
            have HBR := Lib.hid hBr
            have HBJ := Lib.hid hBj
            by_cases hjk : j < k
            · obtain ⟨kB, hLW, hsz⟩ := HL4.out wr (HB.out.trans (hBr.mono HB.out.size))
              obtain ⟨b', o', pj, aj, cj, e1, hbj, hpj, hcj, hIj⟩ := hLW.elem (k := j) (by rw [HLL.out]; omega)
              cases e1
              have hnep : p ≠ pj := nodup_ne HND.out HPK.out hpj hjk
              have hci : ∀ W, Below wr.heap.size wr W → Calls Try.prog 36 #[.slice a5 p.length c5, .slice aj pj.length cj] W fun e w' => e = .returned (.bool false) ∧ Below W.heap.size W w' := fun W hW => by
                have h := ints_any p pj wr.heap.size a5 c5 aj cj W hW.size (((HIP.out.below HBR.out).mono HBR.out.size).below hW) ((hIj.mono hsz).below hW)
                rw [decide_eq_false hnep] at h
                exact h
              have CI := Lib.hid hci
              have hj1 : (j : Int) < (t.size : Int) := by omega
              have hj0 : (0 : Int) ≤ (j : Int) := Int.natCast_nonneg _
              clear hci hpj hIj hLW kB hnep hBr hBj
              go_wp2
              have f1 := fun d os => cell_regrown hcp d os
              have f2 := fun d os => cell_regrown hcj d os
              refine wp_region_quiet_below (by kernel_rfl) (by kernel_rfl) ?_
              repeat (quiet_step (with_reducible exact Calls.regrown_of (CI.out _ (below_regrown _ _ _))))
              refine wpQuiet_nil ?_
              intro _ hw'
              obtain ⟨⟨dq, osq⟩, hw''⟩ := hw'
              subst hw''
              go_wp2
              go_roundw
              case rel => exact ⟨j + 1, by omega, by go_num, HBJ.out.trans ((below_regrown wr dq osq).mono HBJ.out.size)⟩
              case measure => simp [intOf]; omega
            · clear hcp hBr hBj
              go_wp2
              go_roundw
              case rel => exact ⟨k + 1, by omega, by go_num, HB.out.trans (HBR.out.mono HB.out.size)⟩
              case measure => simp [intOf]; omega
        · have hpl : ¬ p.length = 0 := fun h => hp0 (List.eq_nil_of_length_eq_zero h)
          have hcmp : T.cmp s t = -1 := T.cmp_of_size hst
          have hpl1 : ((p.length : Int) == 0) = false := by simpa using hpl
          have hpl2 : (p.length == 0) = false := by simpa using hpl
          clear hp0 hst hpl
          have hc1 : ∀ W, Below wc.heap.size wc W → Calls Try.prog 16 #[tm s.head ax s.args.length cx, tm t.head a t.args.length c] W fun e w' => e = .returned (.int .i64 (-1)) ∧ Below W.heap.size W w' := fun W hW => by
            have h := compare_any s t (by omega) (by omega) wc.heap.size ax cx a c W hW.size DW.out HTW.out ((DA.out.mono dBs).below hW) ((E.out wc kB).2.2.2.below hW)
            rw [hcmp] at h
            exact h
          have C1 := Lib.hid hc1
          clear hc1 hcmp kB dBs
          go_wp2
          have f1 := fun d os => cell_regrown t0 d os
          have f2 := fun d os => cell_regrown t1 d os
          have f3 := fun d os => cell_regrown d0 d os
          have f4 := fun d os => cell_regrown d1 d os
          have f5 := fun d os => cell_regrown hcp d os
          refine wp_region_quiet_below (by kernel_rfl) (by kernel_rfl) ?_
          repeat (quiet_step (with_reducible exact Calls.regrown_of (C1.out _ (below_regrown _ _ _))))
          refine wpQuiet_nil ?_
          intro _ hw'
          obtain ⟨⟨dq, osq⟩, hw''⟩ := hw'
          subst hw''
          have hbq := DB.out.trans ((below_regrown wc dq osq).mono DB.out.size)
          generalize Go.Sort.grow (redrawn wc dq) osq = wy at hbq ⊢
          have HBY := Lib.hid hbq
          clear hbq f1 f2 f3 f4 f5 t0 t1 d0 d1 hcp C1
          go_wp2
          go_loopw [7] (fun j W => AllJ k wy j W) (fun j _ => k - (intOf j).toNat)
          case atStart => exact ⟨0, Nat.zero_le _, rfl, Below.refl _ _⟩
          case round =>
            obtain ⟨j, hj, rfl, hBj⟩ := hrel
            have hBr := HBY.out.trans (hBj.mono HBY.out.size)
            obtain ⟨_, _, hcp, _⟩ := KP.out wr hBr
            have HBR := Lib.hid hBr
            have HBJ := Lib.hid hBj
            by_cases hjk : j < k
            · obtain ⟨kB, hLW, hsz⟩ := HL4.out wr (HB.out.trans (hBr.mono HB.out.size))
              obtain ⟨b', o', pj, aj, cj, e1, hbj, hpj, hcj, hIj⟩ := hLW.elem (k := j) (by rw [HLL.out]; omega)
              cases e1
              have hnep : p ≠ pj := nodup_ne HND.out HPK.out hpj hjk
              have hci : ∀ W, Below wr.heap.size wr W → Calls Try.prog 36 #[.slice a5 p.length c5, .slice aj pj.length cj] W fun e w' => e = .returned (.bool false) ∧ Below W.heap.size W w' := fun W hW => by
                have h := ints_any p pj wr.heap.size a5 c5 aj cj W hW.size (((HIP.out.below HBR.out).mono HBR.out.size).below hW) ((hIj.mono hsz).below hW)
                rw [decide_eq_false hnep] at h
                exact h
              have CI := Lib.hid hci
              have hj1 : (j : Int) < (t.size : Int) := by omega
              have hj0 : (0 : Int) ≤ (j : Int) := Int.natCast_nonneg _
              clear hci hpj hIj hLW kB hnep hBr hBj
              go_wp2
              have f1 := fun d os => cell_regrown hcp d os
              have f2 := fun d os => cell_regrown hcj d os
              refine wp_region_quiet_below (by kernel_rfl) (by kernel_rfl) ?_
              repeat (quiet_step (with_reducible exact Calls.regrown_of (CI.out _ (below_regrown _ _ _))))
              refine wpQuiet_nil ?_
              intro _ hw'
              obtain ⟨⟨dq, osq⟩, hw''⟩ := hw'
              subst hw''
              go_wp2
              go_roundw
              case rel => exact ⟨j + 1, by omega, by go_num, HBJ.out.trans ((below_regrown wr dq osq).mono HBJ.out.size)⟩
              case measure => simp [intOf]; omega
            · clear hcp hBr hBj
              go_wp2
              go_roundw
              case rel => exact ⟨k + 1, by omega, by go_num, HB.out.trans (HBR.out.mono HB.out.size)⟩
              case measure => simp [intOf]; omega
    · have HB' := Lib.hid (E.out wr (HL4.out wr hB).1).2.2.1
      clear hB
      go_wp2_with fail
      refine (awake2_any wr).mono ?_
      rintro e w9 ⟨rfl, hb⟩
      have HF := Lib.hid (HB'.out.trans (hb.mono (by have := HB'.out.size; rw [HBT.out] at this; exact this)))
      clear hb
      go_wp2
      go_ret
      exact ⟨rfl, by rw [HBT.out]; exact HF.out⟩

end Go.Proofs.Ytgocfiahlbgjjaa
