/- The walk of KboPlaces. -/
import Derived.Test.YtbfanbaijombaaaQ1o
import Derived.Test.YtbfanbaijombaaaQ1p
import Derived.Test.YtbfanbaijombaaaQ6a
import Derived.Test.YtbfanbaijombaaaPut
namespace Go.Proofs.Ytbfanbaijombaaa
set_option linter.unusedVariables false
set_option linter.unusedSimpArgs false
open Go.RowKit

theorem sizes_modify8 {k : Nat} {f : T → T} (hf : ∀ x : T, (f x).size ≤ x.size + k) : ∀ (ts : List T) (n : Nat), T.sizes (ts.modify n f) ≤ T.sizes ts + k
  | [], n => by simp [T.sizes]
  | t :: ts, 0 => by simp only [List.modify_zero_cons, T.sizes]; have := hf t; omega
  | t :: ts, n + 1 => by simp only [List.modify_succ_cons, T.sizes]; have := sizes_modify8 hf ts n; omega
theorem put_size8 (u : T) : ∀ (p : List Int) (t : T), (t.put u p).size ≤ t.size + u.size
  | [], t => by simp only [T.put]; omega
  | i :: p, t => by
    simp only [T.put, T.size]
    have h1 := sizes_modify8 (k := u.size) (f := fun s => s.put u p) (fun x => put_size8 u p x) t.args i.toNat
    have h2 := T.size_eq t
    omega
theorem zero_args8 (W : World) : IsArgs W.heap.size W (T.node 0 []).args none 0 := ⟨by simp [T.args], by simp [maxLen], .inl rfl⟩
theorem at_uni {n₀ : Nat} {t : T} {p : List Int} {w : World} {e : Ending} {w' : World} (hn : n₀ ≤ w.heap.size) (h : AtPost n₀ t p w e w') :
    ∃ (s : T) (ok : Bool) (a : Option Addr) (c : Nat), e = .returned (.tuple #[tm s.head a s.args.length c, .bool ok]) ∧ (ok = true → t.at p = some s) ∧ s.size ≤ t.size ∧ (Lit.int .i64 s.head).wf = true ∧ IsArgs w'.heap.size w' s.args a c ∧ Below w.heap.size w w' := by
  rcases h with ⟨s, a, c, h1, h2, h3, h4, h5⟩ | ⟨h1, h2, h3⟩
  · exact ⟨s, true, a, c, h2, fun _ => h1, T.at_size h1, h3, h4.mono (Nat.le_trans hn h5.size), h5⟩
  · exact ⟨.node 0 [], false, none, 0, h2, fun h => (by cases h), by have := T.size_pos t; simp [T.size, T.sizes]; omega, by decide, zero_args8 w', h3⟩
theorem put_uni {t : T} {p : List Int} {u : T} {w : World} {e : Ending} {w' : World} (h : PutPost t p u w e w') :
    ∃ (v : T) (k : Int) (a : Option Addr) (c : Nat), e = .returned (.tuple #[tm v.head a v.args.length c, .int .i64 k]) ∧ (k = 0 → ∃ x, t.at p = some x ∧ v = t.put u p) ∧ v.size ≤ t.size + u.size ∧ (Lit.int .i64 v.head).wf = true ∧ IsArgs w'.heap.size w' v.args a c ∧ Below w.heap.size w w' := by
  rcases h with ⟨s, a, c, h1, h2, h3, h4, h5⟩ | ⟨h1, h2, h3⟩
  · exact ⟨t.put u p, 0, a, c, h2, fun _ => ⟨s, h1, rfl⟩, put_size8 u p t, h3, h4, h5⟩
  · exact ⟨.node 0 [], 6, none, 0, h2, fun h => (by cases h), by have := T.size_pos t; simp [T.size, T.sizes]; omega, by decide, zero_args8 w', h3⟩
def wV8 (g : Sg) (t : T) : Int := if errT g t = 0 then wtT g t else 0
theorem weightV_eq8 (g : Sg) (t : T) : weightV g t = .tuple #[.int .i64 (wV8 g t), .int .i64 (errT g t)] := by
  unfold weightV wV8
  by_cases h : errT g t = 0
  · rw [if_pos h, if_pos h, h]
  · rw [if_neg h, if_neg h]
theorem part_fact {g : Sg} {t u : T} {p : List Int} (h1 : t.at p = some u) (h2 : 0 < p.length) (h3 : errF g [t, u] = 0) : cmR g t u = 1 := by
  rw [cm_ok h3]
  obtain ⟨ht, _⟩ := errF_two h3
  exact stand_more.2 (gtK_part (errT_right ht) (errT_okT ht) h1 (fun e => by subst e; simp at h2))
theorem place_fact {g : Sg} {a b t v q : T} {p : List Int} {k1 k2 : Int} (h1 : k1 = 0 → ∃ x, t.at p = some x ∧ v = t.put a p) (h2 : k2 = 0 → ∃ x, t.at p = some x ∧ q = t.put b p) (e1 : k1 = 0) (e2 : k2 = 0) (h3 : errF g [a, b] = 0) (h4 : errF g [v, q] = 0) : cmR g a b = cmR g v q := by
  rw [cm_ok h3, cm_ok h4]
  obtain ⟨x, hx, rfl⟩ := h1 e1
  obtain ⟨_, _, rfl⟩ := h2 e2
  obtain ⟨hv, hq⟩ := errF_two h4
  exact (stand_put hx (errT_bad hv) (errT_bad hq)).symm
theorem weigh_fact {g : Sg} {a b : T} (h : errF g [a, b] = 0) (h1 : cmR g a b = 1) : wV8 g b ≤ wV8 g a := by
  rw [cm_ok h] at h1
  obtain ⟨ha, hb⟩ := errF_two h
  unfold wV8
  rw [if_pos ha, if_pos hb]
  exact gtK_wt (stand_more.1 h1)

set_option maxRecDepth 100000 in
set_option maxHeartbeats 16000000 in
theorem kboPlaces_walk (g : Sg) (a b t : T) (p : List Int) (ga : Option Addr) (gc : Nat) (pa : Option Addr) (ca : Nat) (pb : Option Addr) (cb : Nat) (pt : Option Addr) (ct : Nat) (pp : Option Addr) (cp : Nat) (w : World) (haw : (Lit.int .i64 a.head).wf = true) (hbw : (Lit.int .i64 b.head).wf = true) (htw : (Lit.int .i64 t.head).wf = true)
    (hG : IsSg w.heap.size w g ga gc) (hA : IsArgs w.heap.size w a.args pa ca) (hB : IsArgs w.heap.size w b.args pb cb) (hT : IsArgs w.heap.size w t.args pt ct) (hP : IsIs w.heap.size w p pp cp) :
    Calls Try.prog 6 #[.slice ga g.length gc, tm a.head pa a.args.length ca, tm b.head pb b.args.length cb, tm t.head pt t.args.length ct, .slice pp p.length cp] w fun e w' => e = .returned (.bool true) ∧ Below w.heap.size w w' := by
  have hp1 : p.length ≤ cp ∧ cp ≤ maxLen := ⟨hP.1, hP.2.1⟩
  unfold maxLen at hp1
  obtain ⟨hp2, hp3⟩ := hp1
  have HAW := Lib.hid haw
  have HBW := Lib.hid hbw
  have HTW := Lib.hid htw
  have CA := Lib.hid awake8_any
  have d0 := ((((((((Later.below (Below.refl _ w)).and (later_sg hG)).and (later_is hP)).and (later_args hT)).and (later_args hB)).and (later_args hA)).push (Below.refl _ _) a.head pa a.args.length ca).push (Below.refl _ _) b.head pb b.args.length cb).push (Below.refl _ _) t.head pt t.args.length ct
  simp only [heap_alloc_size] at d0
  have D := Lib.hid d0
  clear haw hbw htw hG hA hB hT hP d0
  go_enter Try.func6, Try.ntmps6
  go_wp2_with fail
  have hsz : (((w.alloc (tmCells a.head pa a.args.length ca)).alloc (tmCells b.head pb b.args.length cb)).alloc (tmCells t.head pt t.args.length ct)).heap.size = w.heap.size + 1 + 1 + 1 := by simp
  generalize ((w.alloc (tmCells a.head pa a.args.length ca)).alloc (tmCells b.head pb b.args.length cb)).alloc (tmCells t.head pt t.args.length ct) = wB at D hsz ⊢
  have d1 := D.out.pushC (Below.refl _ _) #[.int .i64 a.head, .slice pa a.args.length ca, .int .i64 b.head, .slice pb b.args.length cb, .int .i64 t.head, .slice pt t.args.length ct] 25
  rw [hsz] at d1
  have D1 := Lib.hid d1
  clear d1 hsz D
  generalize wB.alloc (.cells #[.int .i64 a.head, .slice pa a.args.length ca, .int .i64 b.head, .slice pb b.args.length cb, .int .i64 t.head, .slice pt t.args.length ct] 25) = w1 at D1 ⊢
  generalize hb0 : w.heap.size = b0 at D1 ⊢
  have HB0 := Lib.hid hb0
  clear hb0
  refine (few8_any g [a, b, t] w1.heap.size ga gc _ 3 w1 (Nat.le_refl _) D1.out.now.2.2.2.2.2.2.2.2.1 (row_of3 D1.out.now.1 HAW.out HBW.out HTW.out D1.out.now.2.2.2.2.1 D1.out.now.2.2.2.2.2.1 D1.out.now.2.2.2.2.2.2.1)).mono ?_
  rintro e w2 ⟨f1, rfl, hfew, hb⟩
  have D2 := Lib.hid (show Later _ _ from fun X hX => (D1.out.mv hb X hX).2)
  clear hb D1
  cases f1
  case false =>
    have HQ := Lib.hid D2.out.now.2.2.2.2.2.2.2.2
    clear D2 hfew
    go_wp2
    go_ret
    exact ⟨rfl, by rw [HB0.out]; exact HQ.out⟩
  have hsum := hfew rfl
  simp only [T.sizes] at hsum
  have hza : a.size ≤ 1000 := by omega
  have hzb : b.size ≤ 1000 := by omega
  have hzt : t.size ≤ 1000 := by omega
  clear hfew hsum
  by_cases qp : 60 < p.length
  · have HQ := Lib.hid D2.out.now.2.2.2.2.2.2.2.2
    clear D2
    go_wp2
    go_ret
    exact ⟨rfl, by rw [HB0.out]; exact HQ.out⟩
  obtain ⟨⟨z0, z1⟩, ⟨y0, y1⟩, ⟨x0, x1⟩, _⟩ := D2.out.now
  go_wp2_with fail
  clear z0 z1 y0 y1 x0 x1
  refine (at_any t p w2.heap.size pt ct pp cp w2 (Nat.le_refl _) HTW.out D2.out.now.2.2.2.2.2.1 D2.out.now.2.2.2.2.2.2.1).mono ?_
  rintro e w3 hpost
  obtain ⟨u, ok, a3, c3, rfl, hok, hus, huw, hA3, hb⟩ := at_uni (Nat.le_refl _) hpost
  have D3 := Lib.hid (D2.out.pushT hb u a3 c3 hA3)
  have HUW := Lib.hid huw
  have HOK := Lib.hid hok
  obtain ⟨⟨z0, z1⟩, ⟨y0, y1⟩, ⟨x0, x1⟩, _⟩ := D2.out.mv hb |>.now
  have hlt3 : b0 + 1 + 1 < w3.heap.size := World.block_lt_of_cell? w3 ⟨b0 + 1 + 1, 0, none⟩ z0
  have hn1 : b0 ≠ w3.heap.size := by omega
  have hn2 : b0 + 1 ≠ w3.heap.size := by omega
  have hn3 : b0 + 1 + 1 ≠ w3.heap.size := by omega
  clear hb hA3 huw hok hpost D2
  go_wp2_with fail
  clear z0 z1 y0 y1 x0 x1 hlt3 hn1 hn2 hn3
  generalize w3.alloc (tmCells u.head a3 u.args.length c3) = w4 at D3 ⊢
  generalize w3.heap.size = b3 at D3 ⊢
  refine (kCompare_any g t u (by omega) (by omega) w4.heap.size ga gc pt ct a3 c3 w4 (Nat.le_refl _) D3.out.now.2.2.2.2.2.2.2.2.2.1 HTW.out HUW.out D3.out.now.2.2.2.2.2.2.2.1 D3.out.now.2.1).mono ?_
  rw [cmpV_eq]
  rintro e w5 ⟨rfl, hb⟩
  have D5 := Lib.hid (D3.out.mv hb)
  clear hb D3
  have hc1 : ok = true → 0 < p.length → errF g [t, u] = 0 → cmR g t u = 1 := fun h1 h2 h3 => part_fact (HOK.out h1) h2 h3
  generalize cmR g t u = x at *
  generalize errF g [t, u] = e1 at *
  have hcs : (ok = false) ∨ (ok = true ∧ ¬ 0 < p.length) ∨ (ok = true ∧ 0 < p.length ∧ (e1 == 0) = false) ∨ (ok = true ∧ 0 < p.length ∧ e1 = 0 ∧ x = 1) := by
    cases ok with
    | false => exact .inl rfl
    | true =>
      by_cases h2 : 0 < p.length
      · by_cases h3 : e1 = 0
        · exact .inr (.inr (.inr ⟨rfl, h2, h3, hc1 rfl h2 h3⟩))
        · exact .inr (.inr (.inl ⟨rfl, h2, by simpa using h3⟩))
      · exact .inr (.inl ⟨rfl, h2⟩)
  have HWAB := Lib.hid (fun h h1 => weigh_fact (g := g) (a := a) (b := b) h h1)
  have HEAB := Lib.hid (show errF g [a, b] = 0 → errT g a = 0 ∧ errT g b = 0 from errF_two)
  have CWA := Lib.hid (show ∀ W, IsSg W.heap.size W g ga gc → IsArgs W.heap.size W a.args pa ca → Calls Try.prog 19 #[.slice ga g.length gc, tm a.head pa a.args.length ca] W fun e w' => e = .returned (.tuple #[.int .i64 (wV8 g a), .int .i64 (errT g a)]) ∧ Below W.heap.size W w' from fun W hG hA => by
    have := weight_any g a (by omega) W.heap.size ga gc pa ca W (Nat.le_refl _) hG HAW.out hA
    rwa [weightV_eq8] at this)
  have CWB := Lib.hid (show ∀ W, IsSg W.heap.size W g ga gc → IsArgs W.heap.size W b.args pb cb → Calls Try.prog 19 #[.slice ga g.length gc, tm b.head pb b.args.length cb] W fun e w' => e = .returned (.tuple #[.int .i64 (wV8 g b), .int .i64 (errT g b)]) ∧ Below W.heap.size W w' from fun W hG hA => by
    have := weight_any g b (by omega) W.heap.size ga gc pb cb W (Nat.le_refl _) hG HBW.out hA
    rwa [weightV_eq8] at this)
  clear hc1 HOK
  rcases hcs with rfl | ⟨rfl, hl⟩ | ⟨rfl, hl, he⟩ | ⟨rfl, hl, rfl, rfl⟩
  all_goals
    obtain ⟨⟨u0, u1⟩, _, ⟨z0, z1⟩, ⟨y0, y1⟩, ⟨x0, x1⟩, _⟩ := D5.out.now
    go_wp2_with fail
    clear u0 u1 z0 z1 y0 y1 x0 x1
    refine (put_any t (by omega) p a w5.heap.size pt ct pp cp pa ca w5 (Nat.le_refl _) HTW.out D5.out.now.2.2.2.2.2.2.2.1 D5.out.now.2.2.2.2.2.2.2.2.1 HAW.out D5.out.now.2.2.2.2.2.1).mono ?_
    rintro e w6 hpost
    obtain ⟨v, k1, a6, c6, rfl, hv1, hvs, hvw, hA6, hb⟩ := put_uni hpost
    have D6 := Lib.hid (D5.out.pushT hb v a6 c6 hA6)
    have HVW := Lib.hid hvw
    have HV1 := Lib.hid hv1
    obtain ⟨⟨u0, u1⟩, _, ⟨z0, z1⟩, ⟨y0, y1⟩, ⟨x0, x1⟩, _⟩ := D5.out.mv hb |>.now
    have hltu : b3 < w6.heap.size := World.block_lt_of_cell? w6 ⟨b3, 0, none⟩ u0
    have hltz : b0 + 1 + 1 < w6.heap.size := World.block_lt_of_cell? w6 ⟨b0 + 1 + 1, 0, none⟩ z0
    have hlty : b0 + 1 < w6.heap.size := by omega
    have hltx : b0 < w6.heap.size := by omega
    have hn1 : b0 ≠ w6.heap.size := by omega
    have hn2 : b0 + 1 ≠ w6.heap.size := by omega
    have hn3 : b0 + 1 + 1 ≠ w6.heap.size := by omega
    have hn4 : b3 ≠ w6.heap.size := by omega
    clear hb hA6 hvw hv1 hpost D5
    go_wp2_with fail
    clear u0 u1 z0 z1 y0 y1 x0 x1 hltu hltz hlty hltx hn1 hn2 hn3 hn4
    generalize w6.alloc (tmCells v.head a6 v.args.length c6) = w7 at D6 ⊢
    generalize w6.heap.size = b6 at D6 ⊢
    refine (put_any t (by omega) p b w7.heap.size pt ct pp cp pb cb w7 (Nat.le_refl _) HTW.out D6.out.now.2.2.2.2.2.2.2.2.2.1 D6.out.now.2.2.2.2.2.2.2.2.2.2.1 HBW.out D6.out.now.2.2.2.2.2.2.2.2.1).mono ?_
    rintro e w8 hpost
    obtain ⟨q, k2, a8, c8, rfl, hq1, hqs, hqw, hA8, hb⟩ := put_uni hpost
    have D8 := Lib.hid (D6.out.pushT hb q a8 c8 hA8)
    have HQW := Lib.hid hqw
    have HQ1 := Lib.hid hq1
    obtain ⟨⟨v0, v1⟩, _, ⟨u0, u1⟩, _, ⟨z0, z1⟩, ⟨y0, y1⟩, ⟨x0, x1⟩, _⟩ := D6.out.mv hb |>.now
    have hltu : b6 < w8.heap.size := World.block_lt_of_cell? w8 ⟨b6, 0, none⟩ v0
    have hltz : b0 + 1 + 1 < w8.heap.size := World.block_lt_of_cell? w8 ⟨b0 + 1 + 1, 0, none⟩ z0
    have hlty : b0 + 1 < w8.heap.size := by omega
    have hltx : b0 < w8.heap.size := by omega
    have hn1 : b0 ≠ w8.heap.size := by omega
    have hn2 : b0 + 1 ≠ w8.heap.size := by omega
    have hn4 : b6 ≠ w8.heap.size := by omega
    clear hb hA8 hqw hq1 hpost D6
    go_wp2_with fail
    clear u0 u1 v0 v1 z0 z1 y0 y1 x0 x1 hltu hltz hlty hltx hn1 hn2 hn4
    generalize w8.alloc (tmCells q.head a8 q.args.length c8) = w9 at D8 ⊢
    generalize w8.heap.size = b8 at D8 ⊢
    refine (kCompare_any g a b (by omega) (by omega) w9.heap.size ga gc pa ca pb cb w9 (Nat.le_refl _) D8.out.now.2.2.2.2.2.2.2.2.2.2.2.2.2.1 HAW.out HBW.out D8.out.now.2.2.2.2.2.2.2.2.2.1 D8.out.now.2.2.2.2.2.2.2.2.2.2.1).mono ?_
    rw [cmpV_eq]
    rintro e w10 ⟨rfl, hb⟩
    have D9 := Lib.hid (D8.out.mv hb)
    clear hb D8
    obtain ⟨⟨q0, q1⟩, _, ⟨v0, v1⟩, _⟩ := D9.out.now
    go_wp2_with fail
    clear q0 q1 v0 v1
    refine (kCompare_any g v q (by omega) (by omega) w10.heap.size ga gc a6 c6 a8 c8 w10 (Nat.le_refl _) D9.out.now.2.2.2.2.2.2.2.2.2.2.2.2.2.1 HVW.out HQW.out D9.out.now.2.2.2.1 D9.out.now.2.1).mono ?_
    rw [cmpV_eq]
    rintro e w11 ⟨rfl, hb⟩
    have D10 := Lib.hid (D9.out.mv hb)
    clear hb D9
    have hfact : k1 = 0 → k2 = 0 → errF g [a, b] = 0 → errF g [v, q] = 0 → cmR g a b = cmR g v q := fun h1 h2 h3 h4 => place_fact HV1.out HQ1.out h1 h2 h3 h4
    have hwab := HWAB.out
    have heab := HEAB.out
    have CWA2 := Lib.hid CWA.out
    have CWB2 := Lib.hid CWB.out
    generalize cmR g a b = y at *
    generalize cmR g v q = z at *
    generalize errF g [a, b] = i at *
    generalize errF g [v, q] = j at *
    generalize errT g a = ea at *
    generalize errT g b = eb at *
    generalize wV8 g a = m at *
    generalize wV8 g b = n at *
    have hcs : ((k1 == 0) = false ∧ (i != 0) = true) ∨ ((k1 == 0) = false ∧ i = 0 ∧ ea = 0 ∧ eb = 0) ∨ (k1 = 0 ∧ (k2 == 0) = false ∧ (i != 0) = true) ∨ (k1 = 0 ∧ (k2 == 0) = false ∧ i = 0 ∧ ea = 0 ∧ eb = 0) ∨ (k1 = 0 ∧ k2 = 0 ∧ (i == 0) = false ∧ (i != 0) = true) ∨ (k1 = 0 ∧ k2 = 0 ∧ (j == 0) = false ∧ i = 0 ∧ ea = 0 ∧ eb = 0) ∨ (k1 = 0 ∧ k2 = 0 ∧ j = 0 ∧ i = 0 ∧ ea = 0 ∧ eb = 0 ∧ y = z) := by
      by_cases h1 : k1 = 0
      · by_cases h2 : k2 = 0
        · by_cases h3 : i = 0
          · obtain ⟨h5, h6⟩ := heab h3
            by_cases h4 : j = 0
            · exact .inr (.inr (.inr (.inr (.inr (.inr ⟨h1, h2, h4, h3, h5, h6, hfact h1 h2 h3 h4⟩)))))
            · exact .inr (.inr (.inr (.inr (.inr (.inl ⟨h1, h2, by simpa using h4, h3, h5, h6⟩)))))
          · exact .inr (.inr (.inr (.inr (.inl ⟨h1, h2, by simpa using h3, by simpa using h3⟩))))
        · by_cases h3 : i = 0
          · obtain ⟨h5, h6⟩ := heab h3
            exact .inr (.inr (.inr (.inl ⟨h1, by simpa using h2, h3, h5, h6⟩)))
          · exact .inr (.inr (.inl ⟨h1, by simpa using h2, by simpa using h3⟩))
      · by_cases h3 : i = 0
        · obtain ⟨h5, h6⟩ := heab h3
          exact .inr (.inl ⟨by simpa using h1, h3, h5, h6⟩)
        · exact .inl ⟨by simpa using h1, by simpa using h3⟩
    have HMN := Lib.hid hwab
    clear hfact hwab heab HV1 HQ1
    rcases hcs with ⟨h1, h3⟩ | ⟨h1, rfl, rfl, rfl⟩ | ⟨rfl, h2, h3⟩ | ⟨rfl, h2, rfl, rfl, rfl⟩ | ⟨rfl, rfl, h3, h3'⟩ | ⟨rfl, rfl, h4, rfl, rfl, rfl⟩ | ⟨rfl, rfl, rfl, rfl, rfl, rfl, rfl⟩
    all_goals
      obtain ⟨_, _, _, _, _, _, _, ⟨y0, y1⟩, ⟨x0, x1⟩, _⟩ := D10.out.now
      go_wp2_with fail
      clear y0 y1 x0 x1
      refine (CWA2.out w11 D10.out.now.2.2.2.2.2.2.2.2.2.2.2.2.2.1 D10.out.now.2.2.2.2.2.2.2.2.2.1).mono ?_
      rintro e w12 ⟨rfl, hb⟩
      have D11 := Lib.hid (D10.out.mv hb)
      clear hb D10
      obtain ⟨_, _, _, _, _, _, _, ⟨y0, y1⟩, ⟨x0, x1⟩, _⟩ := D11.out.now
      go_wp2_with fail
      clear y0 y1 x0 x1
      refine (CWB2.out w12 D11.out.now.2.2.2.2.2.2.2.2.2.2.2.2.2.1 D11.out.now.2.2.2.2.2.2.2.2.2.2.1).mono ?_
      rintro e w13 ⟨rfl, hb⟩
      have D12 := Lib.hid (D11.out.mv hb)
      clear hb D11
      go_wp2_with fail
      refine (CA.out _).mono ?_
      rintro e w14 ⟨rfl, hb⟩
      have HQ := Lib.hid (D12.out _ hb).2.2.2.2.2.2.2.2.2.2.2.2.2.2
      clear hb D12
      first
        | (go_wp2; go_ret; exact ⟨rfl, by rw [HB0.out]; exact HQ.out⟩)
        | (by_cases hy : y = 1
           · have hmn := HMN.out (by simp) hy
             subst hy
             have hmn2 : ¬ m < n := by omega
             go_wp2
             go_ret
             exact ⟨by simp [hmn], by rw [HB0.out]; exact HQ.out⟩
           · have hy2 : (y != 1) = true := by simpa using hy
             go_wp2
             go_ret
             exact ⟨rfl, by rw [HB0.out]; exact HQ.out⟩)

end Go.Proofs.Ytbfanbaijombaaa
