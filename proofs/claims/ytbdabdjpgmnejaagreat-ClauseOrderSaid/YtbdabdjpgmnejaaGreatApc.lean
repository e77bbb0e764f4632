/- Contracts of clause's notValid, firstFree, shifted and Apart. -/
import Derived.Test.YtbdabdjpgmnejaaGreatWsd
import Derived.Test.YtbdabdjpgmnejaaGreatQDj
import Derived.Test.YtbdabdjpgmnejaaGreatQDm
namespace Go.Proofs.YtbdabdjpgmnejaaGreat
set_option linter.unusedVariables false
set_option linter.unusedSimpArgs false
open Go.RowKit

/-! ### Plain facts -/
mutual
theorem dep_sub {f : Int → T} (hf : ∀ v, (f v).depth ≤ 1) : ∀ t : T, (t.sub f).depth ≤ t.depth
  | .node h ts => by
    have h1 := deps_sub hf ts
    by_cases q : h < 0
    · rw [T.sub_neg (t := .node h ts) q]
      have := hf (-1 - h)
      simp only [T.head, T.depth] at *
      omega
    · rw [T.sub_pos (t := .node h ts) q]
      simp only [T.depth, T.args_node]
      omega
theorem deps_sub {f : Int → T} (hf : ∀ v, (f v).depth ≤ 1) : ∀ ts : List T, T.depths (ts.map (T.sub f)) ≤ T.depths ts
  | [] => Nat.le_refl _
  | t :: ts => by
    have h1 := dep_sub hf t
    have h2 := deps_sub hf ts
    simp only [List.map_cons, T.depths]
    omega
end
theorem shfE_01 (t : T) (y : Int) : shfE t y = 0 ∨ shfE t y = 1 := by
  unfold shfE
  by_cases g : goodH t y = true
  · rw [if_pos g]
    unfold goodH at g
    simp only [Bool.and_eq_true, decide_eq_true_eq] at g
    obtain ⟨hs, hd, _⟩ := check_ok g.1.1
    have h1 : (t.sub (offS y)).size ≤ 400 := Nat.le_trans (T.sub_size (n := 1) (by omega) (fun v => by simp [offS, vt, T.size, T.sizes]) t) (by omega)
    have h2 : (t.sub (offS y)).depth ≤ 40 := Nat.le_trans (dep_sub (fun v => by simp [offS, vt, T.depth, T.depths]) t) hd
    unfold T.check
    rw [if_neg (by omega), if_neg (by omega)]
    split
    · exact .inr rfl
    · exact .inl rfl
  · rw [if_neg g]; exact .inr rfl
theorem no_vars {d : List Lt3} (hd : badL (sidesC d) = false) (h : T.rvs [] (sidesC (nmL d)) = []) : ∀ t ∈ sidesC d, ∀ f : Int → T, t.sub f = t := by
  intro t ht f
  have hg := (badL_good hd t ht).2
  have hno : ∀ g ∈ t.heads, ¬ g < 0 := fun g hg1 hg2 => by
    have hm : -1 - g ∈ T.rvs [] (sidesC d) := mem_rvs.2 (.inr ⟨t, ht, mem_rv.2 ((mem_vars' _ _).2 ⟨by rw [show -1 - (-1 - g) = g from by omega]; exact hg1, by omega⟩)⟩)
    have hix : 0 ≤ ix (T.rvs [] (sidesC d)) (-1 - g) := by unfold ix; omega
    have hh : -1 - ix (T.rvs [] (sidesC d)) (-1 - g) ∈ (t.sub (ofS (nuC d))).heads := by
      refine (heads_sub (ofS (nuC d)) t.size t (Nat.le_refl _) hg _ (by omega)).2 ⟨g, hg1, hg2, ?_⟩
      unfold nuC
      rw [ofS_num hm, T.heads_eq]
      simp [vt, T.head]
    have : ix (T.rvs [] (sidesC d)) (-1 - g) ∈ T.rvs [] (sidesC (nmL d)) := by
      refine mem_rvs.2 (.inr ⟨t.sub (ofS (nuC d)), ?_, mem_rv.2 ((mem_vars' _ _).2 ⟨hh, hix⟩)⟩)
      unfold nmL
      rw [hd, if_neg (by decide), sidesC_map]
      exact List.mem_map.2 ⟨t, ht, rfl⟩
    rw [h] at this
    cases this
  have := sub_congr_vars (f := f) (g := ofS []) _ t (Nat.le_refl _) hg (fun h h1 h2 => absurd h2 (hno h h1))
  rw [this]
  exact sub_vt hg
theorem byC_range {c : List Lt3} (hc : badL (sidesC c) = false) : 0 ≤ byC c ∧ byC c ≤ 256 := by
  have := byV_range (V := T.rvs [] (sidesC c)) (fun v hv => rvs_low hc hv) (T.rvs [] (sidesC c)).length
  rw [List.take_length] at this
  exact this
theorem apa_ground {c d : List Lt3} (hc : badL (sidesC c) = false) (hd : badL (sidesC d) = false) (h : T.rvs [] (sidesC (nmL d)) = []) : apaE c d = 0 ∧ apaL c d = nmL d := by
  obtain ⟨hb0, hb1⟩ := byC_range hc
  have hno := no_vars hd h
  have hnm : nmL d = d := by
    unfold nmL
    rw [hd, if_neg (by decide)]
    have : ∀ x ∈ d, x.sub (ofS (nuC d)) = x := fun x hx => by
      obtain ⟨n, l, r⟩ := x
      simp only [Lt3.sub, Lt3.mk.injEq, true_and]
      exact ⟨hno l (mem_sidesC.2 ⟨_, hx, .inl rfl⟩) _, hno r (mem_sidesC.2 ⟨_, hx, .inr rfl⟩) _⟩
    rw [List.map_congr_left this, List.map_id']
  have hE : ∀ t ∈ sidesC d, shfE t (min (byC c) 255) = 0 ∧ shfT t (min (byC c) 255) = t := fun t ht => by
    have hck := (badL_good hd t ht).1
    have hgd : goodH t (min (byC c) 255) = true := by
      unfold goodH
      simp only [Bool.and_eq_true, decide_eq_true_eq]
      omega
    have e : t.sub (offS (min (byC c) 255)) = t := hno t ht _
    refine ⟨by unfold shfE; rw [if_pos hgd, e, hck], by unfold shfT endT; rw [if_pos hgd, e, if_pos hck]⟩
  have hmn : manyC c (nmL d) = false := by
    unfold manyC
    rw [h]
    simp
  have h0 : apaE c d = 0 := by
    unfold apaE
    rw [if_neg (by unfold nmE; rw [hd]; simp), hc, if_neg (by decide), hmn, if_neg]
    rw [Bool.not_eq_true, List.any_eq_false]
    intro x hx
    rw [hnm] at hx
    unfold badS
    rw [(hE x.l (mem_sidesC.2 ⟨x, hx, .inl rfl⟩)).1, (hE x.r (mem_sidesC.2 ⟨x, hx, .inr rfl⟩)).1]
    simp
  refine ⟨h0, ?_⟩
  unfold apaL
  rw [if_pos h0, hnm]
  have : ∀ x ∈ d, shfL (min (byC c) 255) x = x := fun x hx => by
    obtain ⟨n, l, r⟩ := x
    simp only [shfL, Lt3.mk.injEq, true_and]
    exact ⟨(hE l (mem_sidesC.2 ⟨_, hx, .inl rfl⟩)).2, (hE r (mem_sidesC.2 ⟨_, hx, .inr rfl⟩)).2⟩
  rw [List.map_congr_left this, List.map_id']
def anyE (ts : List T) (y : Int) : Bool := ts.any fun t => decide (shfE t y ≠ 0)
theorem anyE_sides (y : Int) (n : List Lt3) : anyE (sidesC n) y = n.any (badS y false) := by
  induction n with
  | nil => rfl
  | cons x n ih =>
    show (decide (shfE x.l y ≠ 0) || (decide (shfE x.r y ≠ 0) || anyE (sidesC n) y)) = _
    rw [ih]
    simp [badS, Bool.or_assoc]
theorem apa_vars {c d : List Lt3} (hc : badL (sidesC c) = false) (hd : badL (sidesC d) = false) (h : T.rvs [] (sidesC (nmL d)) ≠ []) :
    apaE c d = (if anyE (sidesC (nmL d)) (byC c) then 1 else 0) ∧ (anyE (sidesC (nmL d)) (byC c) = false → apaL c d = (nmL d).map (shfL (byC c))) := by
  obtain ⟨hb0, hb1⟩ := byC_range hc
  have hne : sidesC (nmL d) ≠ [] := fun e => h (by rw [e]; rfl)
  have hlen : 0 < (T.rvs [] (sidesC (nmL d))).length := List.length_pos_iff.2 h
  have hE : apaE c d = (if (nmL d).any (badS (min (byC c) 255) (manyC c (nmL d))) then 1 else 0) := by
    unfold apaE
    rw [if_neg (by unfold nmE; rw [hd]; simp), hc, if_neg (by decide)]
  by_cases hb : byC c ≤ 255
  · have hmn : manyC c (nmL d) = false := by
      unfold manyC
      rw [Bool.and_eq_false_iff]
      exact .inl (decide_eq_false (by omega))
    rw [Int.min_eq_left hb, hmn, ← anyE_sides] at hE
    refine ⟨hE, fun ha => ?_⟩
    have hE0 : apaE c d = 0 := by rw [hE, ha]; rfl
    unfold apaL
    rw [if_pos hE0, Int.min_eq_left hb]
  · have e256 : byC c = 256 := by omega
    obtain ⟨t, ht⟩ := List.exists_mem_of_ne_nil _ hne
    have hany : anyE (sidesC (nmL d)) (byC c) = true := by
      unfold anyE
      rw [List.any_eq_true]
      refine ⟨t, ht, decide_eq_true ?_⟩
      have : goodH t (byC c) = false := by
        unfold goodH
        rw [Bool.and_eq_false_iff]
        exact .inr (decide_eq_false (by omega))
      unfold shfE
      rw [this]
      simp
    obtain ⟨x, hx, _⟩ := mem_sidesC.1 ht
    have hmn : manyC c (nmL d) = true := by
      unfold manyC
      rw [Bool.and_eq_true]
      exact ⟨decide_eq_true (by omega), decide_eq_true hlen⟩
    rw [hmn, if_pos (by rw [List.any_eq_true]; exact ⟨x, hx, rfl⟩)] at hE
    rw [hany]
    exact ⟨hE, fun h => by cases h⟩
theorem withT_map (f : T → T) : ∀ n : List Lt3, withT n ((sidesC n).map f) = n.map (fun x => ⟨x.neg, f x.l, f x.r⟩)
  | [] => rfl
  | x :: n => by
    show withT (x :: n) (f x.l :: f x.r :: (sidesC n).map f) = _
    rw [withT, withT_map f n]; rfl

/-! ### notValid -/
theorem cNotValid_any (t : T) (ht : t.size ≤ 1000000000000) (n₀ : Nat) (a : Option Addr) (c : Nat) (w : World) (hn : n₀ ≤ w.heap.size) (hwf : (Lit.int .i64 t.head).wf = true) (hA : IsArgs n₀ w t.args a c) :
    Calls Tryz.prog 30 #[tm t.head a t.args.length c] w fun e w' => e = .returned (.bool (decide (t.check ≠ 0))) ∧ Below w.heap.size w w' := by
  have hb : Below w.heap.size w (w.alloc (tmCells t.head a t.args.length c)) := (Below.refl _ _).alloc (Nat.le_refl _) _
  have CC := Lib.hid (check_any t ht n₀ a c (w.alloc (tmCells t.head a t.args.length c)) (by simp; omega) hwf (hA.below (hb.mono hn)))
  have HB := Lib.hid hb
  clear hb hA
  go_enter Tryz.func30, Tryz.ntmps30
  go_wp2_with fail
  refine CC.out.mono ?_
  rintro e w2 ⟨rfl, hb2⟩
  have HB2 := Lib.hid (HB.out.trans (hb2.mono (by simp)))
  clear hb2 CC
  obtain ⟨k, hk⟩ : ∃ k, t.check = k := ⟨_, rfl⟩
  have HK := Lib.hid hk
  rw [hk]
  clear hk
  by_cases h : k = 0
  · subst h
    go_wp2
    go_ret
    exact ⟨by rw [HK.out]; rfl, HB2.out⟩
  · have hz : (k != 0) = true := by simpa using h
    go_wp2
    go_ret
    exact ⟨by rw [HK.out]; simp [h], HB2.out⟩
theorem ints_sl10 {w : World} {v : Value} {zs : List Int} (h : IsInts w v zs) : ∃ a c, v = .slice a zs.length c ∧ IsIs w.heap.size w zs a c := by
  rcases h with ⟨rfl, rfl⟩ | ⟨g, cap, rfl, hg, h1, h2, h3⟩
  · exact ⟨none, 0, rfl, by simp, by simp [maxLen], .inl rfl⟩
  · exact ⟨_, cap, rfl, h1, h2, .inr ⟨g, 0, rfl, hg, fun j z hz => by rw [Nat.zero_add]; exact h3 j z hz⟩⟩

/-! ### firstFree -/
set_option maxRecDepth 100000 in
set_option maxHeartbeats 4000000 in
theorem firstFree_any (P : List LV) (hl : P.length ≤ 1000000) (hs : T.sizes (sidesC (t3s P)) ≤ 100000000000) (hbad : badL (sidesC (t3s P)) = false) (n₀ : Nat) (a : Option Addr) (c : Nat) (w : World) (hn : n₀ ≤ w.heap.size) (hP : IsCl n₀ w P a c) :
    Calls Tryz.prog 32 #[.slice a P.length c] w fun e w' => e = .returned (.int .i64 (byC (t3s P))) ∧ Below w.heap.size w w' := by
  have CV := Lib.hid (cVars_any P hl hs n₀ a c w hn hP)
  have HLOW := Lib.hid (fun v hv => rvs_low hbad (v := v) hv)
  have HBY := Lib.hid (show byC (t3s P) = byV (T.rvs [] (sidesC (t3s P))) from rfl)
  clear hP hbad
  go_enter Tryz.func32, Tryz.ntmps32
  go_wp2_with fail
  refine CV.out.mono ?_
  rintro e w5 ⟨v, rfl, hI, hb5⟩
  obtain ⟨p5, c5, rfl, hV⟩ := ints_sl10 hI
  have HV := Lib.hid hV
  have HB5 := Lib.hid hb5
  have hlv : (T.rvs [] (sidesC (t3s P))).length ≤ c5 ∧ c5 ≤ maxLen := ⟨hV.1, hV.2.1⟩
  unfold maxLen at hlv
  obtain ⟨hv1, hv2⟩ := hlv
  clear hV hb5 hI CV
  generalize T.rvs [] (sidesC (t3s P)) = V at HV HBY HLOW hv1 ⊢
  go_wp2
  go_loopw [3, 9] (fun b i wr => ByI V w5 b i wr) (fun _ i _ => V.length - (intOf i).toNat)
  case atStart => exact ⟨0, Nat.zero_le _, rfl, rfl, Below.refl _ _⟩
  case round =>
    obtain ⟨k, hk, rfl, rfl, hB⟩ := hrel
    have HBB := Lib.hid hB
    have hbz := hB.size
    clear hB
    have hr := byV_range HLOW.out k
    by_cases hlt : k < V.length
    · obtain ⟨vb, vo, v, rfl, hvb, hv, hcv⟩ := (HV.out.below HBB.out).elem (k := k) hlt
      have hk0 : (0 : Int) ≤ (k : Int) := Int.natCast_nonneg _
      have hk1 : (k : Int) < (V.length : Int) := by omega
      have hvr := HLOW.out v (List.mem_of_getElem? hv)
      have HSN := Lib.hid (byV_snoc hv)
      obtain ⟨hvr1, hvr2⟩ := hvr
      obtain ⟨hr1, hr2⟩ := hr
      generalize byV (V.take k) = m at hr1 hr2 HSN ⊢
      clear hv
      go_wp2
      go_roundw
      case rel => exact ⟨k + 1, by omega, by go_num, by rw [HSN.out], HBB.out⟩
      case measure => simp [intOf]; omega
    · obtain rfl : k = V.length := by omega
      rw [List.take_length] at hr ⊢
      rw [← HBY.out] at hr ⊢
      go_wp2
      go_ret
      exact ⟨rfl, HB5.out.trans (HBB.out.mono HB5.out.size)⟩

/-! ### shifted -/
/-- A row of terms of one's own, whose elements lie in blocks of a kind. -/
def OAk (ok : Nat → Prop) (n₁ : Nat) (v : Value) (U : List T) (W : World) : Prop := ∃ xs, W.ownsRow n₁ 34 2 v U.length xs ∧ RowVals ok W U xs
theorem OAk.args {ok : Nat → Prop} {n₁ : Nat} {v : Value} {U : List T} {W : World} (h : OAk ok n₁ v U W) (ho : ∀ b, ok b → b < W.heap.size) : ∃ a c, v = .slice a U.length c ∧ IsArgs W.heap.size W U a c := by
  obtain ⟨xs, h1, h2⟩ := h
  obtain ⟨a, c, e, hA⟩ := argsp_of_owns (ok' := (· < W.heap.size)) h1 h2 ho (fun g hg => (Mm.rowBlock h1 hg).2.1)
  exact ⟨a, c, e, isArgsp_lt.1 hA⟩
theorem rowVals_at {ok : Nat → Prop} {w : World} : ∀ {U : List T} {xs : List Value} {k : Nat} {t : T}, RowVals ok w U xs → U[k]? = some t → (Lit.int .i64 t.head).wf = true ∧ xs[k * 2]? = some (.int .i64 t.head) ∧ ∃ a c, xs[k * 2 + 1]? = some (.slice a t.args.length c) ∧ IsArgsp ok w t.args a c
  | [], _, k, t, _, h => by simp at h
  | u :: U, [], k, t, h, _ => h.elim
  | u :: U, [_], k, t, h, _ => h.elim
  | u :: U, y :: z :: xs, 0, t, h, e => by
    simp at e; subst e
    obtain ⟨h1, h2, ⟨a, c, h3, h4⟩, h5⟩ := h
    subst h2 h3
    exact ⟨h1, rfl, a, c, rfl, h4⟩
  | u :: U, y :: z :: xs, k + 1, t, h, e => by
    obtain ⟨h1, h2, h3, h5⟩ := h
    obtain ⟨g1, g2, a, c, g3, g4⟩ := rowVals_at (k := k) (t := t) h5 (by simpa using e)
    rw [show (k + 1) * 2 = k * 2 + 1 + 1 from by omega, show k * 2 + 1 + 1 + 1 = (k * 2 + 1) + 1 + 1 from by omega]
    exact ⟨g1, by simpa using g2, a, c, by simpa using g3, g4⟩
theorem rowVals_set {ok : Nat → Prop} {w : World} {t : T} {a : Option Addr} {c : Nat} (hw : (Lit.int .i64 t.head).wf = true) (hA : IsArgsp ok w t.args a c) : ∀ {U : List T} {xs : List Value} {k : Nat}, RowVals ok w U xs → k < U.length → RowVals ok w (U.set k t) ((xs.set (k * 2) (.int .i64 t.head)).set (k * 2 + 1) (.slice a t.args.length c))
  | [], _, k, _, h => by simp at h
  | u :: U, [], k, h, _ => h.elim
  | u :: U, [_], k, h, _ => h.elim
  | u :: U, y :: z :: xs, 0, h, _ => by
    obtain ⟨h1, h2, h3, h5⟩ := h
    exact ⟨hw, rfl, ⟨a, c, rfl, hA⟩, h5⟩
  | u :: U, y :: z :: xs, k + 1, h, e => by
    obtain ⟨h1, h2, h3, h5⟩ := h
    have := rowVals_set hw hA (k := k) h5 (by simpa using e)
    rw [show (k + 1) * 2 = k * 2 + 1 + 1 from by omega]
    exact ⟨h1, h2, h3, this⟩
theorem RowVals.mono {ok ok' : Nat → Prop} {w : World} {U : List T} {xs : List Value} (h : RowVals ok w U xs) (hm : ∀ b, ok b → ok' b) : RowVals ok' w U xs := h.keep (fun _ _ => rfl) hm
def ShI (y : Int) (ts : List T) (n₁ : Nat) (v : Value) (w2 : World) (i : Value) (wr : World) : Prop :=
  ∃ k : Nat, k ≤ ts.length ∧ i = .int .i64 k ∧ (∀ t ∈ ts.take k, shfE t y = 0) ∧ OAk (okD v wr) n₁ v ((ts.take k).map (fun t => shfT t y) ++ ts.drop k) wr ∧ Below n₁ w2 wr

def shE (c : List Lt3) (y : Int) : Int := if anyE (sidesC c) y then 1 else 0
def shL (c : List Lt3) (y : Int) : List Lt3 := if anyE (sidesC c) y then [] else c.map (shfL y)

set_option maxRecDepth 100000 in
set_option maxHeartbeats 4000000 in
theorem shifted_any (P : List LV) (hl : P.length ≤ 1000000) (hs : T.sizes (sidesC (t3s P)) ≤ 100000000000) (y : Int) (n₀ : Nat) (a : Option Addr) (c : Nat) (w : World) (hn : n₀ ≤ w.heap.size) (hP : IsCl n₀ w P a c) :
    Calls Tryz.prog 31 #[.slice a P.length c, .int .i64 y] w (ClEPost (shL (t3s P) y) (shE (t3s P) y) w) := by
  have HP := Lib.hid (hP.mono hn)
  have HSZ := Lib.hid (fun t ht => Nat.le_trans (mem_sizes (t := t) (ts := sidesC (t3s P)) ht) hs)
  have hln := Lib.hid (sidesC_length (t3s P))
  clear hP
  go_enter Tryz.func31, Tryz.ntmps31
  go_wp2_with fail
  refine (sides_any P hl w.heap.size a c w (Nat.le_refl _) HP.out).mono ?_
  rintro e w2 ⟨v, rfl, hO, hb2⟩
  have HB2 := Lib.hid hb2
  have hz2 := hb2.size
  obtain ⟨pv, cv, rfl, hA2⟩ := hO.args hb2.size
  have hpc : (sidesC (t3s P)).length ≤ cv ∧ cv ≤ maxLen := ⟨hA2.1, hA2.2.1⟩
  unfold maxLen at hpc
  obtain ⟨hp1, hp2⟩ := hpc
  have HO0 := Lib.hid (show OAk (okD (.slice pv (sidesC (t3s P)).length cv) w2) w.heap.size (.slice pv (sidesC (t3s P)).length cv) (sidesC (t3s P)) w2 from by
    obtain ⟨xs, h1, h2⟩ := hO
    exact ⟨xs, h1, h2.mono (fun b hb => ⟨by have : b < w.heap.size := hb; omega, fun e => by have h3 := (h1.lt b e).1; have : b < w.heap.size := hb; omega⟩)⟩)
  have HTS := Lib.hid (show ∃ ts, ts = sidesC (t3s P) from ⟨_, rfl⟩)
  clear hO hb2 hA2
  have HSH := Lib.hid (show shE (t3s P) y = (if anyE (sidesC (t3s P)) y then 1 else 0) ∧ shL (t3s P) y = (if anyE (sidesC (t3s P)) y then [] else withT (t3s P) ((sidesC (t3s P)).map (fun t => shfT t y))) from ⟨rfl, by unfold shL; rw [withT_map]; rfl⟩)
  generalize sidesC (t3s P) = ts at HSZ hln HO0 HSH hp1 ⊢
  go_wp2
  go_loopw [14] (fun i wr => ShI y ts w.heap.size (.slice pv ts.length cv) w2 i wr) (fun i _ => ts.length - (intOf i).toNat)
  case atStart => exact ⟨0, Nat.zero_le _, rfl, by simp, by simpa using HO0.out, Below.refl _ _⟩
  case round =>
    obtain ⟨k, hk, rfl, hz, hO, hB⟩ := hrel
    have HZ := Lib.hid hz
    have HB := Lib.hid hB
    have hbz := hB.size
    clear HO0 hz
    by_cases hlt : k < ts.length
    · obtain ⟨t, htk⟩ : ∃ t, ts[k]? = some t := ⟨_, List.getElem?_eq_getElem hlt⟩
      obtain ⟨xs, hown, hrv⟩ := hO
      have hlen : ((ts.take k).map (fun t => shfT t y) ++ ts.drop k).length = ts.length := by
        rw [List.length_append, List.length_map, List.length_take, List.length_drop]; omega
      have hUk : ((ts.take k).map (fun t => shfT t y) ++ ts.drop k)[k]? = some t := by
        rw [List.getElem?_append_right (by simp; omega), List.length_map, List.length_take, Nat.min_eq_left (by omega), Nat.sub_self, List.getElem?_drop]
        exact htk
      rw [hlen] at hown
      obtain ⟨g, rfl⟩ : ∃ g, pv = some ⟨g, 0, none⟩ := by
        rcases hown.2 with ⟨h, h0⟩ | ⟨g, cap, cur, h, _⟩
        · omega
        · simp only [Value.slice.injEq] at h
          exact ⟨g, h.1⟩
      have hgw : w.heap.size ≤ g ∧ g < wr.heap.size := hown.lt g rfl
      obtain ⟨htw, hx0, at_, ct, hx1, htA⟩ := rowVals_at hrv hUk
      have c0 : wr.cell? ⟨g, k * 2, none⟩ = some (.int .i64 t.head) := by
        have := hown.cells (g := g) rfl (k * 2) _ hx0
        rwa [addr_add, Nat.zero_add] at this
      have c1 : wr.cell? ⟨g, k * 2 + 1, none⟩ = some (.slice at_ t.args.length ct) := by
        have := hown.cells (g := g) rfl (k * 2 + 1) _ hx1
        rwa [addr_add, Nat.zero_add] at this
      have hk0 : (0 : Int) ≤ (k : Int) := Int.natCast_nonneg _
      have hk1 : (k : Int) < (ts.length : Int) := by omega
      have htA' : IsArgs wr.heap.size wr t.args at_ ct := htA.toArgs (fun b hb => hb.1)
      obtain ⟨W2, hW2⟩ : ∃ W2, wr.alloc (tmCells t.head at_ t.args.length ct) = W2 := ⟨_, rfl⟩
      have hs2 : W2.heap.size = wr.heap.size + 1 := by rw [← hW2]; simp
      have hF2 : Below wr.heap.size wr W2 := by rw [← hW2]; exact (Below.refl _ wr).alloc (Nat.le_refl _) _
      obtain ⟨l0, l1⟩ := (show Later (fun X => Vc wr.heap.size t.head at_ t.args.length ct X) W2 from by rw [← hW2]; exact later_var wr _ _ _ _).now
      have CS := Lib.hid (shiftN_any t (by have := HSZ.out t (List.mem_of_getElem? htk); omega) y wr.heap.size at_ ct W2 hF2.size htw (htA'.below hF2))
      have KP := Lib.hid (show ∀ W, Below W2.heap.size W2 W → (∃ u, W.cell? ⟨g, k * 2, none⟩ = some u) ∧ (∃ u, W.cell? ⟨g, k * 2 + 1, none⟩ = some u) ∧ (∀ j, W.frozen? ⟨g, j, none⟩ = false) from fun W hW => by
        have hbl := hF2.trans (hW.mono hF2.size)
        exact ⟨⟨_, (hbl.cell (p := ⟨g, _, none⟩) hgw.2).trans c0⟩, ⟨_, (hbl.cell (p := ⟨g, _, none⟩) hgw.2).trans c1⟩, fun j => (hbl.frozen (p := ⟨g, j, none⟩) hgw.2).trans (hown.frozenAt j)⟩)
      have KN := Lib.hid (show ∀ (W : World) (x : T) (a3 : Option Addr) (c3 : Nat), Below W2.heap.size W2 W → (Lit.int .i64 x.head).wf = true → IsArgsp (fun b => W2.heap.size ≤ b ∧ b < W.heap.size) W x.args a3 c3 → x = shfT t y →
          OAk (okD (.slice (some ⟨g, 0, none⟩) ts.length cv) ((W.setCell ⟨g, k * 2, none⟩ (.int .i64 x.head)).setCell ⟨g, k * 2 + 1, none⟩ (.slice a3 x.args.length c3))) w.heap.size (.slice (some ⟨g, 0, none⟩) ts.length cv) ((ts.take (k + 1)).map (fun t => shfT t y) ++ ts.drop (k + 1)) ((W.setCell ⟨g, k * 2, none⟩ (.int .i64 x.head)).setCell ⟨g, k * 2 + 1, none⟩ (.slice a3 x.args.length c3)) ∧
          Below w.heap.size w2 ((W.setCell ⟨g, k * 2, none⟩ (.int .i64 x.head)).setCell ⟨g, k * 2 + 1, none⟩ (.slice a3 x.args.length c3)) from fun W x a3 c3 hW hxw hxA hx => by
        have hbl := hF2.trans (hW.mono hF2.size)
        have hblz := hbl.size
        have hWz := hW.size
        have hb3 : Below w.heap.size W ((W.setCell ⟨g, k * 2, none⟩ (.int .i64 x.head)).setCell ⟨g, k * 2 + 1, none⟩ (.slice a3 x.args.length c3)) := (((Below.refl _ W).setCell (p := ⟨g, _, none⟩) hgw.1 _).setCell (p := ⟨g, _, none⟩) hgw.1 _)
        have hother : ∀ b, b ≠ g → ((W.setCell ⟨g, k * 2, none⟩ (.int .i64 x.head)).setCell ⟨g, k * 2 + 1, none⟩ (.slice a3 x.args.length c3)).heap[b]? = W.heap[b]? := fun b hb => (Below.heap_setCell _ _ _ _ hb).trans (Below.heap_setCell _ _ _ _ hb)
        have hsz : ((W.setCell ⟨g, k * 2, none⟩ (.int .i64 x.head)).setCell ⟨g, k * 2 + 1, none⟩ (.slice a3 x.args.length c3)).heap.size = W.heap.size := by simp
        have hgne : ∀ b, (Value.slice (some ⟨g, 0, none⟩) ts.length cv).ownBlock ≠ some b → b ≠ g := fun b h e => h (by rw [e]; rfl)
        have hne : ∀ b, b ≠ g → (Value.slice (some ⟨g, 0, none⟩) ts.length cv).ownBlock ≠ some b := fun b h e => h (by simpa [Value.ownBlock] using e.symm)
        refine ⟨⟨(xs.set (k * 2) (.int .i64 x.head)).set (k * 2 + 1) (.slice a3 x.args.length c3), ?_, ?_⟩, HB.out.trans (((hbl.mono (by omega)).trans hb3))⟩
        · have h4 := (((ownsRow_later hown hbl).stored (k * 2) (.int .i64 x.head)).1.stored (k * 2 + 1) (.slice a3 x.args.length c3)).1
          have hlen2 : ((ts.take (k + 1)).map (fun t => shfT t y) ++ ts.drop (k + 1)).length = ts.length := by
            rw [List.length_append, List.length_map, List.length_take, List.length_drop]; omega
          rw [hlen2]
          exact h4
        · have hst : ((ts.take k).map (fun t => shfT t y) ++ ts.drop k).set k x = (ts.take (k + 1)).map (fun t => shfT t y) ++ ts.drop (k + 1) := by
            obtain ⟨hkl, hke⟩ := List.getElem?_eq_some_iff.1 htk
            rw [List.set_append_right _ _ (by simp; omega), List.length_map, List.length_take, Nat.min_eq_left (by omega), Nat.sub_self, List.drop_eq_getElem_cons hkl, List.set_cons_zero, List.take_add_one, htk, hx]
            simp
          rw [← hst]
          refine rowVals_set hxw (hxA.keep (fun b hb => hother b (by omega)) (fun b hb => ⟨by rw [hsz]; exact hb.2, hne b (by omega)⟩)) (hrv.keep (fun b hb => (hother b (hgne b hb.2)).trans (hbl.block b hb.1)) (fun b hb => ⟨by rw [hsz]; have := hb.1; omega, hb.2⟩)) (by rw [hlen]; exact hlt))
      have HX := Lib.hid htk
      clear hown hrv hx0 hx1 htA htA' hF2 hlen hUk htk hB
      go_wp2_with fail
      refine CS.out.mono ?_
      rintro e w3 ⟨a3, c3, rfl, hw3, hA3, hb3⟩
      obtain ⟨⟨u0, hu0⟩, ⟨u1, hu1⟩, hfz⟩ := KP.out w3 hb3
      have HN := Lib.hid (KN.out w3 (shfT t y) a3 c3 hb3 hw3 hA3 rfl)
      have HB3 := Lib.hid hb3
      clear hA3 hb3 KN CS KP c0 c1 l0 l1
      obtain ⟨q, hq⟩ : ∃ q, shfE t y = q := ⟨_, rfl⟩
      have HQ := Lib.hid hq
      rw [hq]
      have h01 := shfE_01 t y
      rw [hq] at h01
      clear hq
      generalize shfT t y = x at HN ⊢
      rcases h01 with rfl | rfl
      · have HZ2 := Lib.hid (show ∀ u ∈ ts.take (k + 1), shfE u y = 0 from fun u hu => by
          rw [List.take_add_one, HX.out] at hu
          simp only [Option.toList, List.mem_append, List.mem_singleton] at hu
          rcases hu with hu | rfl
          · exact HZ.out u hu
          · exact HQ.out)
        go_wp2
        go_roundw
        case rel => exact ⟨k + 1, by omega, by go_num, HZ2.out, HN.out.1, HN.out.2⟩
        case measure => simp [intOf]; omega
      · have HE := Lib.hid (show shE (t3s P) y = 1 ∧ shL (t3s P) y = [] from by
          have : anyE ts y = true := by
            unfold anyE
            rw [List.any_eq_true]
            exact ⟨t, List.mem_of_getElem? HX.out, by rw [HQ.out]; decide⟩
          rw [HSH.out.1, HSH.out.2, this]
          exact ⟨rfl, rfl⟩)
        go_wp2
        refine bodyPost_ret (v := .tuple #[.slice none 0 0, .int .i64 1]) (by simp [results, Tryz.results31, go_sem]) rfl ?_
        exact ⟨[], none, 0, HE.out.2.symm, by rw [HE.out.1]; rfl, IsCl.nil _ _ _ (by simp [maxLen]), HB2.out.trans HN.out.2⟩
    · obtain rfl : k = ts.length := by omega
      have hfin : anyE ts y = false := by
        unfold anyE
        rw [List.any_eq_false]
        intro t ht
        rw [HZ.out t (by rw [List.take_length]; exact ht)]
        decide
      have HE := Lib.hid (show shE (t3s P) y = 0 ∧ shL (t3s P) y = withT (t3s P) (ts.map (fun t => shfT t y)) from by
        rw [HSH.out.1, HSH.out.2, hfin]
        exact ⟨rfl, rfl⟩)
      rw [List.take_length, List.drop_of_length_le (Nat.le_refl _), List.append_nil] at hO
      obtain ⟨p3, c3, e3, hA3⟩ := hO.args (fun b hb => hb.1)
      have hlm : (ts.map (fun t => shfT t y)).length = 2 * P.length := by rw [List.length_map, hln.out]; simp
      have hc := withSides_any P hl (ts.map (fun t => shfT t y)) hlm wr.heap.size a c p3 c3 wr (Nat.le_refl _) ((HP.out.below (HB2.out.trans hB)).mono (HB2.out.trans hB).size) hA3
      rw [← e3] at hc
      have CW := Lib.hid hc
      have HBW := Lib.hid (HB2.out.trans hB)
      clear hO hB hA3 e3 hlm hfin hc
      go_wp2_with fail
      refine CW.out.mono ?_
      rintro e w4 ⟨Q, v4, rfl, hQ, hO4, hb4⟩
      obtain ⟨p4, c4, rfl, hcl⟩ := hO4.args (fun b hb => Nat.lt_of_lt_of_le hb hb4.size)
      have HQ := Lib.hid (hQ.trans HE.out.2.symm)
      have HCL := Lib.hid hcl
      have HB4 := Lib.hid (HBW.out.trans (hb4.mono HBW.out.size))
      clear hQ hO4 hb4 hcl CW
      go_wp2
      refine bodyPost_ret (v := .tuple #[.slice p4 Q.length c4, .int .i64 0]) (by simp [results, Tryz.results31, go_sem]) rfl ?_
      exact ⟨Q, p4, c4, HQ.out, by rw [HE.out.1], HCL.out, HB4.out⟩

/-! ### Apart -/
set_option maxRecDepth 100000 in
set_option maxHeartbeats 4000000 in
theorem cApart_any (A B : List LV) (hla : A.length ≤ 1000000) (hlb : B.length ≤ 1000000) (hsa : T.sizes (sidesC (t3s A)) ≤ 100000) (hsb : T.sizes (sidesC (t3s B)) ≤ 100000) (n₀ : Nat) (pa : Option Addr) (ca : Nat) (pb : Option Addr) (cb : Nat) (w : World) (hn : n₀ ≤ w.heap.size) (hA : IsCl n₀ w A pa ca) (hB : IsCl n₀ w B pb cb) :
    Calls Tryz.prog 9 #[.slice pa A.length ca, .slice pb B.length cb] w (ClEPost (apaL (t3s A) (t3s B)) (apaE (t3s A) (t3s B)) w) := by
  have HA := Lib.hid (hA.mono hn)
  have HB := Lib.hid (hB.mono hn)
  have HSS := Lib.hid (sides_sz hsa)
  have eg := enters_of Tryz.func30 (by kernel_rfl) rfl
  clear hA hB
  go_enter Tryz.func9, Tryz.ntmps9
  go_wp2_with fail
  refine (sides_any A hla w.heap.size pa ca w (Nat.le_refl _) HA.out).mono ?_
  rintro e w2 ⟨v, rfl, hO, hb2⟩
  obtain ⟨p2, c2, rfl, hA2⟩ := hO.args hb2.size
  have HB2 := Lib.hid hb2
  have CC := Lib.hid (containsT_any (fun t => decide (t.check ≠ 0)) 30 #[] eg (sidesC (t3s A)) w2.heap.size p2 c2 w2 (Nat.le_refl _) hA2 (fun W t a c ht hW hwt hAt => cNotValid_any t (by have := HSS.out.2 t ht; omega) w2.heap.size a c W hW.size hwt hAt))
  clear hO hb2 hA2 eg
  go_wp2_with fail
  refine CC.out.mono ?_
  rintro e w3 ⟨rfl, hb3⟩
  have HB3 := Lib.hid (HB2.out.trans (hb3.mono HB2.out.size))
  clear hb3 CC
  have HBL := Lib.hid (show ((sidesC (t3s A)).any fun t => decide (t.check ≠ 0)) = badL (sidesC (t3s A)) from rfl)
  rw [HBL.out]
  cases hc : badL (sidesC (t3s A)) with
  | true =>
    have HE := Lib.hid (show apaE (t3s A) (t3s B) = 1 from by
      unfold apaE
      by_cases h : nmE (t3s B) ≠ 0
      · rw [if_pos h]
      · rw [if_neg h, hc]; rfl)
    have HEL := Lib.hid (show apaL (t3s A) (t3s B) = [] from by unfold apaL; rw [HE.out]; rfl)
    clear hc
    go_wp2
    refine bodyPost_ret (v := .tuple #[.slice none 0 0, .int .i64 1]) (by simp [results, Tryz.results9, go_sem]) rfl ?_
    exact ⟨[], none, 0, HEL.out.symm, by rw [HE.out]; rfl, IsCl.nil _ _ _ (by simp [maxLen]), HB3.out⟩
  | false =>
    have HC := Lib.hid hc
    clear hc
    go_wp2_with fail
    refine (cNorm_any B hlb hsb w.heap.size pb cb w3 HB3.out.size (HB.out.below HB3.out)).mono ?_
    rintro e w4 ⟨N, p4, c4, hN, rfl, hcl, hb4⟩
    have HN := Lib.hid hN
    have HCL := Lib.hid hcl
    have HB4 := Lib.hid (HB3.out.trans (hb4.mono HB3.out.size))
    clear hN hcl hb4
    cases hd : badL (sidesC (t3s B)) with
    | true =>
      have HE := Lib.hid (show nmE (t3s B) = 1 ∧ apaE (t3s A) (t3s B) = 1 from by
        have h1 : nmE (t3s B) = 1 := by unfold nmE; rw [hd]; rfl
        exact ⟨h1, by unfold apaE; rw [h1]; rfl⟩)
      have HEL := Lib.hid (show apaL (t3s A) (t3s B) = [] from by unfold apaL; rw [HE.out.2]; rfl)
      rw [HE.out.1]
      clear hd
      go_wp2
      refine bodyPost_ret (v := .tuple #[.slice none 0 0, .int .i64 1]) (by simp [results, Tryz.results9, go_sem]) rfl ?_
      exact ⟨[], none, 0, HEL.out.symm, by rw [HE.out.2]; rfl, IsCl.nil _ _ _ (by simp [maxLen]), HB4.out⟩
    | false =>
      have HD := Lib.hid hd
      have hs0 := nm_size (t3s B)
      rw [← HN.out] at hs0
      have hlN : N.length ≤ 1000000 := by
        have h1 := congrArg List.length HN.out
        have h2 : (nmL (t3s B)).length = B.length := by
          have := congrArg List.length (nm_negs (t3s B) hd)
          simpa using this
        simp only [List.length_map] at h1
        omega
      rw [show nmE (t3s B) = 0 from by unfold nmE; rw [hd]; rfl]
      clear hd
      go_wp2_with fail
      refine (cVars_any N hlN (by omega) w4.heap.size p4 c4 w4 (Nat.le_refl _) HCL.out).mono ?_
      rintro e w5 ⟨v5, rfl, hi, hb5⟩
      obtain ⟨p5, c5, rfl, _⟩ := ints_sl10 hi
      have HB5 := Lib.hid (HB4.out.trans (hb5.mono HB4.out.size))
      have HCL5 := Lib.hid ((HCL.out.below hb5).mono hb5.size)
      clear hi hb5
      by_cases hv : T.rvs [] (sidesC (t3s N)) = []
      · have HE := Lib.hid (show apaE (t3s A) (t3s B) = 0 ∧ t3s N = apaL (t3s A) (t3s B) from by
          have h := apa_ground HC.out HD.out (by rw [← HN.out]; exact hv)
          exact ⟨h.1, by rw [h.2]; exact HN.out⟩)
        rw [hv]
        clear hv
        go_wp2
        refine bodyPost_ret (v := .tuple #[.slice p4 N.length c4, .int .i64 0]) (by simp [results, Tryz.results9, go_sem]) rfl ?_
        exact ⟨N, p4, c4, HE.out.2, by rw [HE.out.1], HCL5.out, HB5.out⟩
      · have HV := Lib.hid (apa_vars HC.out HD.out (by rw [← HN.out]; exact hv))
        obtain ⟨m, hm⟩ : ∃ m, (T.rvs [] (sidesC (t3s N))).length = m + 1 := ⟨_, (Nat.succ_pred_eq_of_pos (List.length_pos_iff.2 hv)).symm⟩
        have hm0 : ((m : Int) + 1 == 0) = false := by simp; omega
        rw [hm]
        clear hv hm
        have hm1 : (((m + 1 : Nat) : Int) == 0) = false := by simp; omega
        go_wp2_with fail
        refine (firstFree_any A hla (by omega) HC.out w.heap.size pa ca w5 HB5.out.size (HA.out.below HB5.out)).mono ?_
        rintro e w6 ⟨rfl, hb6⟩
        have HB6 := Lib.hid (HB5.out.trans (hb6.mono HB5.out.size))
        have CS := Lib.hid (shifted_any N hlN (by omega) (byC (t3s A)) w6.heap.size p4 c4 w6 (Nat.le_refl _) ((HCL5.out.below hb6).mono hb6.size))
        clear hb6
        go_wp2_with fail
        refine CS.out.mono ?_
        rintro e w7 ⟨R, p7, c7, hR, rfl, hcl7, hb7⟩
        have HB7 := Lib.hid (HB6.out.trans (hb7.mono HB6.out.size))
        have HCL7 := Lib.hid hcl7
        have HE := Lib.hid (show shE (t3s N) (byC (t3s A)) = apaE (t3s A) (t3s B) ∧ t3s R = apaL (t3s A) (t3s B) from by
          have h1 : shE (t3s N) (byC (t3s A)) = apaE (t3s A) (t3s B) := by rw [HN.out, HV.out.1]; rfl
          refine ⟨h1, ?_⟩
          rw [hR, HN.out]
          unfold shL
          cases ha : anyE (sidesC (nmL (t3s B))) (byC (t3s A)) with
          | true =>
            rw [if_pos rfl]
            have : apaE (t3s A) (t3s B) = 1 := by rw [HV.out.1, ha]; rfl
            unfold apaL
            rw [this]; rfl
          | false => rw [if_neg (by decide), HV.out.2 ha])
        rw [HE.out.1]
        clear hR hcl7 hb7 CS
        obtain ⟨ee, hee⟩ : ∃ ee, apaE (t3s A) (t3s B) = ee := ⟨_, rfl⟩
        have HEE := Lib.hid hee
        rw [hee]
        clear hee
        go_wp2
        refine bodyPost_ret (v := .tuple #[.slice p7 R.length c7, .int .i64 ee]) (by simp [results, Tryz.results9, go_sem]) rfl ?_
        exact ⟨R, p7, c7, HE.out.2, by rw [HEE.out], HCL7.out, HB7.out⟩

end Go.Proofs.YtbdabdjpgmnejaaGreat
