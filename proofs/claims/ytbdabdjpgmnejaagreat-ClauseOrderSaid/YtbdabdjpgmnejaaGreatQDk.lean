/- QDk: joined of Kn, Law9, Law10, Lsa, Lso, Mt0, Uf0, Num. -/
import Derived.Test.YtbdabdjpgmnejaaGreatQDj
import Derived.Test.YtbdabdjpgmnejaaGreatQBq
import Derived.Test.YtbdabdjpgmnejaaGreatQDa
import Derived.Test.YtbdabdjpgmnejaaGreatQDh
import Derived.Test.YtbdabdjpgmnejaaGreatQBh
import Derived.Test.YtbdabdjpgmnejaaGreatQBg
import Derived.Test.YtbdabdjpgmnejaaGreatQDb
/- Norm and Apart of clauses; plain facts. -/
namespace Go.Proofs.YtbdabdjpgmnejaaGreat
set_option linter.unusedVariables false
set_option linter.unusedSimpArgs false
open Go.RowKit

theorem sidesC_map (f : Int → T) (c : List Lt3) : sidesC (c.map (Lt3.sub f)) = (sidesC c).map (T.sub f) := by
  induction c with
  | nil => rfl
  | cons x c ih => simp only [sidesC, List.map_cons, List.flatten_cons, List.map_append] at *; rw [ih]; rfl
/-- A clause is told by its signs and its sides. -/
theorem lt3s_ext : ∀ {a b : List Lt3}, a.map Lt3.neg = b.map Lt3.neg → sidesC a = sidesC b → a = b
  | [], [], _, _ => rfl
  | [], _ :: _, h, _ => by simp at h
  | _ :: _, [], h, _ => by simp at h
  | x :: a, y :: b, h, k => by
    simp only [List.map_cons, List.cons.injEq] at h
    simp only [sidesC, List.map_cons, List.flatten_cons, List.cons_append, List.nil_append, List.cons.injEq] at k
    obtain ⟨k1, k2, k3⟩ := k
    have := lt3s_ext (a := a) (b := b) h.2 k3
    subst this
    obtain ⟨n, l, r⟩ := x
    obtain ⟨n', l', r'⟩ := y
    simp only at h k1 k2
    obtain ⟨rfl, _⟩ := h
    subst k1 k2
    rfl
theorem badL_good {ts : List T} (h : badL ts = false) : ∀ t ∈ ts, t.check = 0 ∧ bad (T.subs 1 t) = false := fun t ht => by
  unfold badL at h
  rw [List.any_eq_false] at h
  have := h t ht
  simp only [decide_eq_true_eq, ne_eq, Decidable.not_not] at this
  exact ⟨this, (check_ok this).2.2⟩
theorem mem_rv {t : T} {v : Int} : v ∈ t.rv ↔ v ∈ vars1 t := by rw [T.rv_eq]; rfl
/-- The sides of a Norm. -/
theorem nm_sides {c : List Lt3} (h : badL (sidesC c) = false) : sidesC (nmL c) = (T.nrms (sidesC c) []).1 := by
  unfold nmL
  rw [h, if_neg (by decide), sidesC_map]
  exact (norm_put (fun s hs => (badL_good h s hs).2)).1.symm
theorem nm_negs (c : List Lt3) (h : badL (sidesC c) = false) : (nmL c).map Lt3.neg = c.map Lt3.neg := by
  unfold nmL
  rw [h, if_neg (by decide), List.map_map]
  rfl
theorem ofS_small : ∀ (V : List Int) (s : Nat) (v : Int), (ofS (V.mapIdx (fun i v => (v, vt ((i + s : Nat) : Int)))) v).size ≤ 1
  | [], s, v => by simp [ofS, vt, T.size, T.sizes]
  | u :: V, s, v => by
    rw [List.mapIdx_cons, ofS]
    split
    · simp [vt, T.size, T.sizes]
    · have := ofS_small V (s + 1) v
      have e : (fun (i : Nat) (v : Int) => (v, vt ((i + 1 + s : Nat) : Int))) = fun (i : Nat) (v : Int) => (v, vt ((i + (s + 1) : Nat) : Int)) := by
        funext i w; rw [show i + 1 + s = i + (s + 1) from by omega]
      rw [← e] at this
      exact this
theorem nu_small (c : List Lt3) (v : Int) : (ofS (nuC c) v).size ≤ 1 := ofS_small _ 0 v
theorem sizes_sub {f : Int → T} (hf : ∀ v, (f v).size ≤ 1) : ∀ ts : List T, T.sizes (ts.map (T.sub f)) ≤ T.sizes ts
  | [] => Nat.le_refl _
  | t :: ts => by
    have h1 := T.sub_size (n := 1) (by omega) hf t
    have h2 := sizes_sub hf ts
    simp only [List.map_cons, T.sizes]
    omega
theorem nm_size (c : List Lt3) : T.sizes (sidesC (nmL c)) ≤ T.sizes (sidesC c) := by
  unfold nmL
  split
  · simp [sidesC, T.sizes]
  · rw [sidesC_map]
    exact sizes_sub (nu_small c) _

/-! ### Apart -/
theorem shf_ok {t : T} {y : Int} (h : shfE t y = 0) : shfT t y = t.sub (offS y) ∧ (t.sub (offS y)).check = 0 ∧ bad (T.subs 1 t) = false := by
  unfold shfE at h
  by_cases g : goodH t y = true
  · rw [if_pos g] at h
    have h2 := g
    unfold goodH at h2
    simp only [Bool.and_eq_true, decide_eq_true_eq] at h2
    refine ⟨?_, h, (check_ok h2.1.1).2.2⟩
    unfold shfT endT
    rw [if_pos g, if_pos h]
  · rw [if_neg g] at h; cases h
structure ApartOk (c d : List Lt3) (y : Int) : Prop where
  nd : badL (sidesC d) = false
  nc : badL (sidesC c) = false
  sh : ∀ x ∈ nmL d, shfE x.l y = 0 ∧ shfE x.r y = 0
  mn : manyC c (nmL d) = false ∨ nmL d = []
theorem apart_ok {c d : List Lt3} (h : apaE c d = 0) : ApartOk c d (min (byC c) 255) ∧ nmE d = 0 := by
  unfold apaE at h
  by_cases h1 : nmE d = 0
  · rw [if_neg (fun e => e h1)] at h
    by_cases h2 : badL (sidesC c) = true
    · rw [if_pos h2] at h; cases h
    · rw [if_neg h2] at h
      by_cases h3 : ((nmL d).any (badS (min (byC c) 255) (manyC c (nmL d)))) = true
      · rw [if_pos h3] at h; cases h
      · rw [Bool.not_eq_true, List.any_eq_false] at h3
        have hd : badL (sidesC d) = false := by
          unfold nmE at h1
          by_cases hb : badL (sidesC d) = true
          · rw [if_pos hb] at h1; cases h1
          · simpa using hb
        refine ⟨⟨hd, by simpa using h2, fun x hx => ?_, ?_⟩, h1⟩
        · have := h3 x hx
          unfold badS at this
          simp only [Bool.or_eq_true, decide_eq_true_eq, ne_eq, not_or, Decidable.not_not] at this
          exact ⟨this.1.2, this.2⟩
        · cases hn : nmL d with
          | nil => exact .inr rfl
          | cons x n =>
            refine .inl ?_
            have := h3 x (by rw [hn]; exact List.mem_cons_self ..)
            unfold badS at this
            simp only [Bool.or_eq_true, not_or] at this
            rw [← hn]
            simpa using this.1.1
  · rw [if_pos h1] at h; cases h
theorem apart_bad {c d : List Lt3} (h : apaE c d ≠ 0) : apaL c d = [] := by unfold apaL; rw [if_neg h]
theorem sides_shf {y : Int} : ∀ {n : List Lt3}, (∀ x ∈ n, shfE x.l y = 0 ∧ shfE x.r y = 0) → n.map (shfL y) = n.map (Lt3.sub (offS y)) := fun {n} h => by
  apply List.map_congr_left
  intro x hx
  obtain ⟨h1, h2⟩ := h x hx
  unfold shfL Lt3.sub
  rw [(shf_ok h1).1, (shf_ok h2).1]
theorem mem_sidesC {c : List Lt3} {t : T} : t ∈ sidesC c ↔ ∃ x ∈ c, t = x.l ∨ t = x.r := by
  unfold sidesC
  rw [List.mem_flatten]
  constructor
  · rintro ⟨l, hl, ht⟩
    obtain ⟨x, hx, rfl⟩ := List.mem_map.1 hl
    exact ⟨x, hx, by simpa using ht⟩
  · rintro ⟨x, hx, ht⟩
    exact ⟨_, List.mem_map.2 ⟨x, hx, rfl⟩, by simpa using ht⟩
theorem byV_ge : ∀ {V : List Int} {v : Int}, v ∈ V → v + 1 ≤ byV V := by
  intro V v hv
  have aux : ∀ (V : List Int) (m : Int), m ≤ V.foldl (fun m v => max m (v + 1)) m ∧ ∀ v ∈ V, v + 1 ≤ V.foldl (fun m v => max m (v + 1)) m := by
    intro V
    induction V with
    | nil => intro m; exact ⟨Int.le_refl _, by simp⟩
    | cons u V ih =>
      intro m
      obtain ⟨h1, h2⟩ := ih (max m (u + 1))
      rw [List.foldl_cons]
      refine ⟨by omega, fun v hv => ?_⟩
      rcases List.mem_cons.1 hv with rfl | hv
      · omega
      · exact h2 v hv
  exact (aux V 0).2 v hv
theorem apart_same {c d : List Lt3} (h : apaE c d = 0) : nmE (apaL c d) = 0 ∧ nmL (apaL c d) = nmL d := by
  obtain ⟨ok, _⟩ := apart_ok h
  generalize hy : min (byC c) 255 = y at ok
  have hL : apaL c d = (nmL d).map (Lt3.sub (offS y)) := by
    unfold apaL
    rw [if_pos h, hy, sides_shf ok.sh]
  have hgood : badL (sidesC (apaL c d)) = false := by
    rw [hL, sidesC_map]
    unfold badL
    rw [List.any_eq_false]
    intro t ht
    obtain ⟨t0, h0, rfl⟩ := List.mem_map.1 ht
    obtain ⟨x, hx, e⟩ := mem_sidesC.1 h0
    obtain ⟨h1, h2⟩ := ok.sh x hx
    rcases e with rfl | rfl
    · simp [(shf_ok h1).2.1]
    · simp [(shf_ok h2).2.1]
  refine ⟨by unfold nmE; rw [hgood]; rfl, ?_⟩
  refine lt3s_ext ?_ ?_
  · rw [nm_negs _ hgood, hL, List.map_map]; rfl
  · rw [nm_sides hgood, nm_sides ok.nd]
    have hg : ∀ s ∈ sidesC d, bad (T.subs 1 s) = false := fun s hs => (badL_good ok.nd s hs).2
    have hy0 : 0 ≤ y := by
      have := byV_range (V := T.rvs [] (sidesC c)) (fun v hv => rvs_low ok.nc hv) (T.rvs [] (sidesC c)).length
      rw [List.take_length] at this
      have e : byC c = byV (T.rvs [] (sidesC c)) := rfl
      omega
    have hs : sidesC (apaL c d) = (sidesC d).map (T.sub (fun v => vt (ix (T.rvs [] (sidesC d)) v + y))) := by
      rw [hL, sidesC_map]
      unfold nmL
      rw [ok.nd, if_neg (by decide), sidesC_map, List.map_map]
      apply List.map_congr_left
      intro t ht
      show (t.sub (ofS (nuC d))).sub (offS y) = _
      rw [T.sub_sub]
      refine sub_congr_vars _ t (Nat.le_refl _) (hg t ht) fun g hg1 hg2 => ?_
      have hm : -1 - g ∈ T.rvs [] (sidesC d) := mem_rvs.2 (.inr ⟨t, ht, mem_rv.2 ((mem_vars' _ _).2 ⟨by rw [show -1 - (-1 - g) = g from by omega]; exact hg1, by omega⟩)⟩)
      unfold nuC
      rw [ofS_num hm, T.sub_neg (by have : 0 ≤ ix (T.rvs [] (sidesC d)) (-1 - g) := by unfold ix; omega
                                    simp [vt, T.head]; omega)]
      simp only [vt, T.head, offS]
      congr 2
      omega
    rw [hs]
    have := (T.nrms_ren (fun v => ix (T.rvs [] (sidesC d)) v + y) (fun v => v ∈ T.rvs [] (sidesC d)) (fun u v hu hv e => by
      have e' : ix (T.rvs [] (sidesC d)) u = ix (T.rvs [] (sidesC d)) v := by omega
      unfold ix at e'
      have e2 : (T.rvs [] (sidesC d)).idxOf u = (T.rvs [] (sidesC d)).idxOf v := by omega
      have h1 := List.getElem_idxOf (List.idxOf_lt_length_iff.2 hu)
      have h2 := List.getElem_idxOf (List.idxOf_lt_length_iff.2 hv)
      rw [← h1, ← h2]
      congr 1) (fun v _ => by simp only [ix]; omega) (sidesC d) hg (fun s hs g hg1 hg2 => mem_rvs.2 (.inr ⟨s, hs, mem_rv.2 ((mem_vars' _ _).2 ⟨by rw [show -1 - (-1 - g) = g from by omega]; exact hg1, by omega⟩)⟩)) [] (by simp)).1
    rw [List.map_nil] at this
    rw [this]
theorem apart_dis {c d : List Lt3} (h : apaE c d = 0) {v : Int} (hv : v ∈ T.rvs [] (sidesC (apaL c d))) : v ∉ T.rvs [] (sidesC c) := by
  obtain ⟨ok, _⟩ := apart_ok h
  generalize hy : min (byC c) 255 = y at ok
  have hL : apaL c d = (nmL d).map (Lt3.sub (offS y)) := by
    unfold apaL
    rw [if_pos h, hy, sides_shf ok.sh]
  rw [hL, sidesC_map] at hv
  rcases mem_rvs.1 hv with hv | ⟨t, ht, hv⟩
  · cases hv
  · obtain ⟨t0, h0, rfl⟩ := List.mem_map.1 ht
    obtain ⟨x, hx, e⟩ := mem_sidesC.1 h0
    obtain ⟨s1, s2⟩ := ok.sh x hx
    have hg0 : bad (T.subs 1 t0) = false := by
      rcases e with rfl | rfl
      · exact (shf_ok s1).2.2
      · exact (shf_ok s2).2.2
    rw [mem_rv, mem_vars'] at hv
    obtain ⟨hv1, hv2⟩ := hv
    obtain ⟨g, hg1, hg2, hg3⟩ := (heads_sub (offS y) t0.size t0 (Nat.le_refl _) hg0 (-1 - v) (by omega)).1 hv1
    have hvu : v = -1 - g + y := by
      rw [T.heads_eq] at hg3
      simp [offS, vt, T.head, T.args] at hg3
      omega
    have hu : -1 - g ∈ T.rvs [] (sidesC (nmL d)) := mem_rvs.2 (.inr ⟨t0, h0, mem_rv.2 ((mem_vars' _ _).2 ⟨by rw [show -1 - (-1 - g) = g from by omega]; exact hg1, by omega⟩)⟩)
    rcases ok.mn with hm | hm
    · intro hc
      have h1 := byV_ge hc
      have e1 : byC c = byV (T.rvs [] (sidesC c)) := rfl
      unfold manyC at hm
      rw [Bool.and_eq_false_iff, decide_eq_false_iff_not, decide_eq_false_iff_not] at hm
      rcases hm with hm | hm
      · omega
      · have := List.length_pos_of_mem hu
        exact hm this
    · rw [hm] at hx; cases hx

end Go.Proofs.YtbdabdjpgmnejaaGreat

/- Reading literals out of memory. -/
namespace Go.Proofs.YtbdabdjpgmnejaaGreat
set_option linter.unusedVariables false
set_option linter.unusedSimpArgs false
set_option maxRecDepth 100000
open Go.ChangeShapes Go.WideShapes Go.ChangeAt Go.RowKit Go.Joins

theorem cellsLit : Tryz.prog.cellsOf 36 = 5 := by kernel_rfl

section
variable {H : Type} {enc : TypeId × Value → H} {w : World} {sp : Nat → Bool} {hd : Bool}

theorem trod_lit {n : Nat} {cs : List Value} {x : DataW H × List MemPlace} (h : DataW.trod enc Tryz.prog w 0 sp hd n 36 cs = some x) :
    ∃ y : LV, cs = [.bool y.n, .int .i64 y.l.head, .slice y.pa y.l.args.length y.ca, .int .i64 y.r.head, .slice y.pb y.r.args.length y.cb] ∧ IsLv w.heap.size w y := by
  obtain ⟨xs, m, hm, _, hl, hxs, hf⟩ := DataW.trod_struct Tryz.underlying36 h
  rw [cellsLit] at hl
  match cs, hl with
  | [c0, c1, c2, c3, c4], _ =>
    match xs, hxs with
    | [y0, y1, y2], _ =>
      have h0 := hf 0 _ rfl
      have h1 := hf 1 _ rfl
      have h2 := hf 2 _ rfl
      simp [cellsBool, cellsTerm] at h0 h1 h2
      obtain ⟨k, e0, _⟩ := DataW.trod_bool Tryz.underlying4 h0
      obtain ⟨t, a, c, e1, wf1, hA⟩ := (trod_terms _).1 h1
      obtain ⟨u, b, d, e2, wf2, hB⟩ := (trod_terms _).1 h2
      simp at e0 e1 e2
      obtain ⟨rfl, rfl⟩ := e1
      obtain ⟨rfl, rfl⟩ := e2
      subst e0
      exact ⟨⟨k, t, u, a, c, b, d⟩, rfl, wf1, wf2, hA, hB⟩

/-- An argument of type Lit. -/
theorem open_lit {r : Reach} {b0 : Nat} {v : Value} {d : DataW H} {p : List MemPlace} (hv : Value.okWide Tryz.prog w r b0 36 v) (h : DataW.Trod enc Tryz.prog w 0 sp hd 36 v d p) :
    ∃ y : LV, v = y.v ∧ IsLv w.heap.size w y := by
  obtain ⟨cs, rfl, _⟩ := okWide_struct Tryz.underlying36 hv
  obtain ⟨n, hn⟩ := h
  obtain ⟨y, e, hy⟩ := trod_lit hn
  refine ⟨y, ?_, hy⟩
  obtain ⟨l⟩ := cs
  simp only [Value.cells] at e
  simp only [LV.v]
  rw [show l = _ from e]
end

end Go.Proofs.YtbdabdjpgmnejaaGreat

/- Reading clauses out of memory. -/
namespace Go.Proofs.YtbdabdjpgmnejaaGreat
set_option linter.unusedVariables false
set_option linter.unusedSimpArgs false
set_option maxRecDepth 100000
open Go.ChangeShapes Go.WideShapes Go.ChangeAt Go.RowKit Go.Joins

section
variable {H : Type} {enc : TypeId × Value → H} {w : World} {sp : Nat → Bool} {hd : Bool}

theorem trod_cl {n : Nat} {cs : List Value} {x : DataW H × List MemPlace} (h : DataW.trod enc Tryz.prog w 0 sp hd n 23 cs = some x) : ∃ (P : List LV) (a : Option Addr) (c : Nat), cs = [.slice a P.length c] ∧ IsCl w.heap.size w P a c := by
  rcases DataW.trod_slice Tryz.underlying23 h with ⟨rfl, _⟩ | ⟨a, len, cap, elems, rest, m, hm, rfl, _, _, hlc, hcm, hel, hcell, _, _⟩
  · exact ⟨[], none, 0, rfl, ⟨Nat.le_refl _, by simp [maxLen], .inl rfl⟩⟩
  · cases len with
    | zero => exact ⟨[], some a, cap, rfl, ⟨hlc, hcm, .inl rfl⟩⟩
    | succ len =>
      have each : ∀ i, i < len + 1 → ∃ y : LV, IsLv w.heap.size w y ∧ w.cell? ((a.add (i * 5)).add 0) = some (.bool y.n) ∧ w.cell? ((a.add (i * 5)).add 1) = some (.int .i64 y.l.head) ∧ w.cell? ((a.add (i * 5)).add 2) = some (.slice y.pa y.l.args.length y.ca) ∧ w.cell? ((a.add (i * 5)).add 3) = some (.int .i64 y.r.head) ∧ w.cell? ((a.add (i * 5)).add 4) = some (.slice y.pb y.r.args.length y.cb) := by
        intro i hi
        have h1 := hcell i hi
        rw [List.getElem?_eq_getElem (by omega), cellsLit, Option.bind_eq_some_iff] at h1
        obtain ⟨cs, hcs, ht⟩ := h1
        obtain ⟨y, rfl, hy⟩ := trod_lit ht
        refine ⟨y, hy, ?_, ?_, ?_, ?_, ?_⟩
        · exact mapM_some_get (by simpa [World.cells?] using hcs) 0 0 rfl
        · exact mapM_some_get (by simpa [World.cells?] using hcs) 1 1 rfl
        · exact mapM_some_get (by simpa [World.cells?] using hcs) 2 2 rfl
        · exact mapM_some_get (by simpa [World.cells?] using hcs) 3 3 rfl
        · exact mapM_some_get (by simpa [World.cells?] using hcs) 4 4 rfl
      obtain ⟨b, o, spot⟩ := a
      have hspot : spot = none := by
        obtain ⟨y, _, h1, _⟩ := each 0 (by omega)
        cases spot with
        | none => rfl
        | some k => unfold World.cell? at h1; simp [Addr.add] at h1; split at h1 <;> simp at h1
      subst hspot
      simp only [add_none, Nat.add_zero] at each
      have hlt : b < w.heap.size := by
        obtain ⟨y, _, h1, _⟩ := each 0 (by omega)
        exact lt_of_cell h1
      have hall : ∀ (n o : Nat), (∀ i, i < n → ∃ y : LV, At5 w b (o + i * 5) y ∧ IsLv w.heap.size w y) → ∃ P : List LV, P.length = n ∧ ∀ (j : Nat) (y : LV), P[j]? = some y → At5 w b (o + j * 5) y ∧ IsLv w.heap.size w y := by
        intro n
        induction n with
        | zero => intro o _; exact ⟨[], rfl, by simp⟩
        | succ n ih =>
          intro o h
          obtain ⟨z, hz⟩ := h 0 (by omega)
          obtain ⟨zs, hl, hr⟩ := ih (o + 5) (fun i hi => by
            obtain ⟨y, hy⟩ := h (i + 1) (by omega)
            exact ⟨y, by rw [show o + 5 + i * 5 = o + (i + 1) * 5 from by omega]; exact hy⟩)
          refine ⟨z :: zs, by simp [hl], fun j y hj => ?_⟩
          cases j with
          | zero => simp at hj; subst hj; simpa using hz
          | succ j => rw [show o + (j + 1) * 5 = o + 5 + j * 5 from by omega]; exact hr j y (by simpa using hj)
      obtain ⟨P, hl, hr⟩ := hall (len + 1) o (fun i hi => by
        obtain ⟨y, h0, h1, h2, h3, h4, h5⟩ := each i hi
        exact ⟨y, ⟨h1, h2, h3, h4, h5⟩, h0⟩)
      exact ⟨P, some ⟨b, o, none⟩, cap, by rw [hl], ⟨by omega, hcm, .inr ⟨b, o, rfl, hlt, hr⟩⟩⟩

/-- A nil slice has no capacity. -/
theorem cl_nil {v : Value} {d : DataW H} {p : List MemPlace} (h : DataW.Trod enc Tryz.prog w 0 sp hd 23 v d p) {a : Option Addr} {l c : Nat} (e : v = .slice a l c) : a = none → c = 0 := by
  subst e
  rintro rfl
  obtain ⟨n, hn⟩ := h
  rcases DataW.trod_slice Tryz.underlying23 hn with ⟨e, _⟩ | ⟨a, len, cap, elems, rest, m, hm, e, _⟩
  · simp [Value.cells] at e; exact e.2
  · simp [Value.cells] at e

/-- An argument of type []Lit. -/
theorem open_cl {r : Reach} {b0 : Nat} {v : Value} {d : DataW H} {p : List MemPlace} (hv : Value.okWide Tryz.prog w r b0 23 v) (h : DataW.Trod enc Tryz.prog w 0 sp hd 23 v d p) :
    ∃ (P : List LV) (a : Option Addr) (c : Nat), v = .slice a P.length c ∧ IsCl w.heap.size w P a c := by
  obtain ⟨a, len, cap, rfl⟩ := okWide_slice Tryz.underlying23 hv
  obtain ⟨n, hn⟩ := h
  obtain ⟨P, a', c, e, hA⟩ := trod_cl hn
  simp [Value.cells] at e
  obtain ⟨rfl, rfl, rfl⟩ := e
  exact ⟨P, a, cap, rfl, hA⟩
end

end Go.Proofs.YtbdabdjpgmnejaaGreat

/- Contracts of lit's sameSides, Same and Trivial. -/
namespace Go.Proofs.YtbdabdjpgmnejaaGreat
set_option linter.unusedVariables false
set_option linter.unusedSimpArgs false
open Go.RowKit

set_option maxRecDepth 100000 in
set_option maxHeartbeats 2000000 in
theorem sameSides_any (x y : LV) (hx : x.sz) (n₀ : Nat) (w : World) (hn : n₀ ≤ w.heap.size) (hX : IsLv n₀ w x) (hY : IsLv n₀ w y) :
    Calls Tryz.prog 54 #[x.v, y.v] w fun e w' => e = .returned (.bool (sidB x.l x.r y.l y.r)) ∧ Below w.heap.size w w' := by
  have d0 := (((((Later.below (Below.refl _ w)).and (later_lv (hY.mono hn))).and (later_lv (hX.mono hn))).pushL (Below.refl _ _) x).pushL (Below.refl _ _) y)
  simp only [heap_alloc_size] at d0
  have D := Lib.hid d0
  have S1 := fun (W : World) (hX : IsLv W.heap.size W x) (hY : IsLv W.heap.size W y) => same_any x.l y.l hx.1 W.heap.size x.pa x.ca y.pa y.ca W (Nat.le_refl _) hX.lw hY.lw hX.la hY.la
  have S2 := fun (W : World) (hX : IsLv W.heap.size W x) (hY : IsLv W.heap.size W y) => same_any x.r y.r hx.2 W.heap.size x.pb x.cb y.pb y.cb W (Nat.le_refl _) hX.rw hY.rw hX.ra hY.ra
  have S3 := fun (W : World) (hX : IsLv W.heap.size W x) (hY : IsLv W.heap.size W y) => same_any x.l y.r hx.1 W.heap.size x.pa x.ca y.pb y.cb W (Nat.le_refl _) hX.lw hY.rw hX.la hY.ra
  have S4 := fun (W : World) (hX : IsLv W.heap.size W x) (hY : IsLv W.heap.size W y) => same_any x.r y.l hx.2 W.heap.size x.pb x.cb y.pa y.ca W (Nat.le_refl _) hX.rw hY.lw hX.ra hY.la
  unfold sidB
  generalize sameB x.l y.l = s1 at S1 ⊢
  generalize sameB x.r y.r = s2 at S2 ⊢
  generalize sameB x.l y.r = s3 at S3 ⊢
  generalize sameB x.r y.l = s4 at S4 ⊢
  have C1 := Lib.hid S1
  have C2 := Lib.hid S2
  have C3 := Lib.hid S3
  have C4 := Lib.hid S4
  clear S1 S2 S3 S4 d0 hX hY
  go_enter Tryz.func54, Tryz.ntmps54
  go_wp2_with fail
  generalize (w.alloc x.obj).alloc y.obj = w1 at D ⊢
  generalize hb0 : w.heap.size = b0 at D ⊢
  have HB0 := Lib.hid hb0
  clear hb0
  refine (C1.out w1 D.out.now.2.2.1 D.out.now.2.2.2.1).mono ?_
  rintro e w2 ⟨rfl, hb⟩
  have D2 := Lib.hid (D.out.mv hb)
  clear hb D C1
  obtain ⟨⟨y0, y1, y2, y3, y4⟩, ⟨x0, x1, x2, x3, x4⟩, _⟩ := D2.out.now
  cases s1 with
  | true =>
    go_wp2_with fail
    refine (C2.out w2 D2.out.now.2.2.1 D2.out.now.2.2.2.1).mono ?_
    clear y0 y1 y2 y3 y4 x0 x1 x2 x3 x4
    rintro e w3 ⟨rfl, hb⟩
    have D3 := Lib.hid (D2.out.mv hb)
    clear hb D2 C2
    cases s2 with
    | true =>
      have HQ := Lib.hid D3.out.now.2.2.2.2
      go_wp2
      go_ret
      exact ⟨rfl, by rw [HB0.out]; exact HQ.out⟩
    | false =>
      obtain ⟨⟨y0, y1, y2, y3, y4⟩, ⟨x0, x1, x2, x3, x4⟩, _⟩ := D3.out.now
      go_wp2_with fail
      refine (C3.out w3 D3.out.now.2.2.1 D3.out.now.2.2.2.1).mono ?_
      clear y0 y1 y2 y3 y4 x0 x1 x2 x3 x4
      rintro e w4 ⟨rfl, hb⟩
      have D4 := Lib.hid (D3.out.mv hb)
      clear hb D3 C3
      cases s3 with
      | false =>
        have HQ := Lib.hid D4.out.now.2.2.2.2
        go_wp2
        go_ret
        exact ⟨rfl, by rw [HB0.out]; exact HQ.out⟩
      | true =>
        obtain ⟨⟨y0, y1, y2, y3, y4⟩, ⟨x0, x1, x2, x3, x4⟩, _⟩ := D4.out.now
        go_wp2_with fail
        refine (C4.out w4 D4.out.now.2.2.1 D4.out.now.2.2.2.1).mono ?_
        clear y0 y1 y2 y3 y4 x0 x1 x2 x3 x4
        rintro e w5 ⟨rfl, hb⟩
        have HQ := Lib.hid (D4.out.mv hb).now.2.2.2.2
        clear hb D4 C4
        go_wp2
        go_ret
        exact ⟨by cases s4 <;> rfl, by rw [HB0.out]; exact HQ.out⟩
  | false =>
    go_wp2_with fail
    refine (C3.out w2 D2.out.now.2.2.1 D2.out.now.2.2.2.1).mono ?_
    clear y0 y1 y2 y3 y4 x0 x1 x2 x3 x4
    rintro e w4 ⟨rfl, hb⟩
    have D4 := Lib.hid (D2.out.mv hb)
    clear hb D2 C3
    cases s3 with
    | false =>
      have HQ := Lib.hid D4.out.now.2.2.2.2
      go_wp2
      go_ret
      exact ⟨rfl, by rw [HB0.out]; exact HQ.out⟩
    | true =>
      obtain ⟨⟨y0, y1, y2, y3, y4⟩, ⟨x0, x1, x2, x3, x4⟩, _⟩ := D4.out.now
      go_wp2_with fail
      refine (C4.out w4 D4.out.now.2.2.1 D4.out.now.2.2.2.1).mono ?_
      clear y0 y1 y2 y3 y4 x0 x1 x2 x3 x4
      rintro e w5 ⟨rfl, hb⟩
      have HQ := Lib.hid (D4.out.mv hb).now.2.2.2.2
      clear hb D4 C4
      go_wp2
      go_ret
      exact ⟨by cases s4 <;> rfl, by rw [HB0.out]; exact HQ.out⟩

set_option maxRecDepth 100000 in
set_option maxHeartbeats 2000000 in
theorem litSame_any (x y : LV) (hx : x.sz) (n₀ : Nat) (w : World) (hn : n₀ ≤ w.heap.size) (hX : IsLv n₀ w x) (hY : IsLv n₀ w y) :
    Calls Tryz.prog 23 #[x.v, y.v] w fun e w' => e = .returned (.bool (samL x.n x.l x.r y.n y.l y.r)) ∧ Below w.heap.size w w' := by
  have hF : Below w.heap.size w ((w.alloc x.obj).alloc y.obj) := ((Below.refl _ w).alloc (Nat.le_refl _) _).alloc (by simp) _
  have S := sameSides_any x y hx n₀ ((w.alloc x.obj).alloc y.obj) (by simp; omega) (hX.below (hF.mono hn)) (hY.below (hF.mono hn))
  unfold samL
  generalize sidB x.l x.r y.l y.r = s at S ⊢
  have C := Lib.hid S
  have HF := Lib.hid hF
  clear S hX hY hF
  obtain ⟨p, hp⟩ : ∃ p, (x.n == y.n) = p := ⟨_, rfl⟩
  rw [hp]
  go_enter Tryz.func23, Tryz.ntmps23
  cases p with
  | false =>
    go_wp2
    go_ret
    exact ⟨rfl, HF.out⟩
  | true =>
    go_wp2_with fail
    refine C.out.mono ?_
    rintro e w2 ⟨rfl, hb⟩
    have HB := Lib.hid (HF.out.trans (hb.mono HF.out.size))
    clear hb
    go_wp2
    go_ret
    exact ⟨by cases s <;> rfl, HB.out⟩

set_option maxRecDepth 100000 in
set_option maxHeartbeats 2000000 in
theorem litTrivial_any (x : LV) (hx : x.sz) (n₀ : Nat) (w : World) (hn : n₀ ≤ w.heap.size) (hX : IsLv n₀ w x) :
    Calls Tryz.prog 113 #[x.v] w fun e w' => e = .returned (.bool (sameB x.l x.r)) ∧ Below w.heap.size w w' := by
  have hF : Below w.heap.size w (w.alloc x.obj) := (Below.refl _ w).alloc (Nat.le_refl _) _
  have hX1 := hX.below (hF.mono hn)
  have C := Lib.hid (same_any x.l x.r hx.1 n₀ x.pa x.ca x.pb x.cb (w.alloc x.obj) (by simp; omega) hX.lw hX.rw hX1.la hX1.ra)
  have HF := Lib.hid hF
  clear hX hF hX1
  go_enter Tryz.func113, Tryz.ntmps113
  go_wp2_with fail
  refine C.out.mono ?_
  rintro e w2 ⟨rfl, hb⟩
  have HB := Lib.hid (HF.out.trans (hb.mono HF.out.size))
  clear hb
  go_wp2
  go_ret
  exact ⟨rfl, HB.out⟩

end Go.Proofs.YtbdabdjpgmnejaaGreat

/- Contract of lit's Opposite. -/
namespace Go.Proofs.YtbdabdjpgmnejaaGreat
set_option linter.unusedVariables false
set_option linter.unusedSimpArgs false
open Go.RowKit

set_option maxRecDepth 100000 in
set_option maxHeartbeats 2000000 in
theorem litOpposite_any (x y : LV) (hx : x.sz) (n₀ : Nat) (w : World) (hn : n₀ ≤ w.heap.size) (hX : IsLv n₀ w x) (hY : IsLv n₀ w y) :
    Calls Tryz.prog 75 #[x.v, y.v] w fun e w' => e = .returned (.bool (oppL x.n x.l x.r y.n y.l y.r)) ∧ Below w.heap.size w w' := by
  have hF : Below w.heap.size w ((w.alloc x.obj).alloc y.obj) := ((Below.refl _ w).alloc (Nat.le_refl _) _).alloc (by simp) _
  have S := sameSides_any x y hx n₀ ((w.alloc x.obj).alloc y.obj) (by simp; omega) (hX.below (hF.mono hn)) (hY.below (hF.mono hn))
  unfold oppL
  generalize sidB x.l x.r y.l y.r = s at S ⊢
  have C := Lib.hid S
  have HF := Lib.hid hF
  clear S hX hY hF
  clear hx hn
  obtain ⟨xn, xl, xr, xpa, xca, xpb, xcb⟩ := x
  obtain ⟨yn, yl, yr, ypa, yca, ypb, ycb⟩ := y
  go_enter Tryz.func75, Tryz.ntmps75
  rcases xn with _ | _ <;> rcases yn with _ | _
  · go_wp2
    go_ret
    exact ⟨rfl, HF.out⟩
  · go_wp2_with fail
    refine C.out.mono ?_
    rintro e w2 ⟨rfl, hb⟩
    have HB := Lib.hid (HF.out.trans (hb.mono HF.out.size))
    clear hb
    go_wp2
    go_ret
    exact ⟨by cases s <;> rfl, HB.out⟩
  · go_wp2_with fail
    refine C.out.mono ?_
    rintro e w2 ⟨rfl, hb⟩
    have HB := Lib.hid (HF.out.trans (hb.mono HF.out.size))
    clear hb
    go_wp2
    go_ret
    exact ⟨by cases s <;> rfl, HB.out⟩
  · go_wp2
    go_ret
    exact ⟨rfl, HF.out⟩

end Go.Proofs.YtbdabdjpgmnejaaGreat

/- Mt0: split off Mat. -/
namespace Go.Proofs.YtbdabdjpgmnejaaGreat
set_option linter.unusedVariables false
set_option linter.unusedSimpArgs false
open Go.RowKit

theorem grown_of_below {w w' : World} {row : Option Nat} (h : Below w.heap.size w w') : w.grownBy w' row := ⟨h.os, h.tape, h.output, h.size, fun k hk _ => h.block k hk⟩
theorem grown_below {n B : Nat} {a b : World} (h : a.grownBy b (some B)) (hn : n ≤ B) (ha : n ≤ a.heap.size) : Below n a b := ⟨h.os, h.tape, h.output, h.size, fun q hq => h.block q (by omega) (by simp; omega)⟩
theorem grown_cell {B b o : Nat} {w w' : World} (h : w.grownBy w' (some B)) (hb : b < w.heap.size) (hne : b ≠ B) : w'.cell? ⟨b, o, none⟩ = w.cell? ⟨b, o, none⟩ := World.cell?_of_block (a := ⟨b, o, none⟩) (h.block b hb (by simpa using hne))
theorem sizes_take_lt {ps : List T} {k : Nat} {p : T} (h : ps[k]? = some p) : T.sizes (ps.take k) + p.size ≤ T.sizes ps := by
  have h3 := T.sizes_append (ps.take k) (ps.drop k)
  rw [List.take_append_drop] at h3
  obtain ⟨hk, e⟩ := List.getElem?_eq_some_iff.1 h
  have h4 : ps.drop k = p :: ps.drop (k + 1) := by rw [List.drop_eq_getElem_cons hk, e]
  rw [h4, T.sizes] at h3
  omega

theorem mNotValid_any (t : T) (ht : t.size ≤ 1000000000000) (n₀ : Nat) (a : Option Addr) (c : Nat) (w : World) (hn : n₀ ≤ w.heap.size) (hwf : (Lit.int .i64 t.head).wf = true) (hA : IsArgs n₀ w t.args a c) :
    Calls Tryz.prog 78 #[tm t.head a t.args.length c] w fun e w' => e = .returned (.bool (decide (t.check ≠ 0))) ∧ Below w.heap.size w w' := by
  have hb : Below w.heap.size w (w.alloc (tmCells t.head a t.args.length c)) := (Below.refl _ _).alloc (Nat.le_refl _) _
  have CC := Lib.hid (check_any t ht n₀ a c (w.alloc (tmCells t.head a t.args.length c)) (by simp; omega) hwf (hA.below (hb.mono hn)))
  have HB := Lib.hid hb
  clear hb hA
  go_enter Tryz.func78, Tryz.ntmps78
  go_wp2_with fail
  refine CC.out.mono ?_
  rintro e w2 ⟨rfl, hb2⟩
  have HB2 := Lib.hid (HB.out.trans (hb2.mono (by simp)))
  clear hb2
  cases hd : decide (t.check ≠ 0)
  · have hz : t.check = 0 := by simpa using hd
    have HZ := Lib.hid hz
    rw [hz]
    have HD := Lib.hid (show decide (t.check ≠ 0) = false from hd)
    clear hd hz
    go_wp2
    go_ret
    refine ⟨?_, HB2.out⟩
    first | (rw [HD.out]; rfl) | (simp [HZ.out])
  · have hz : (t.check == 0) = false := by simpa using hd
    obtain ⟨k, hk⟩ : ∃ k, t.check = k := ⟨_, rfl⟩
    rw [hk] at hz ⊢
    have HD := Lib.hid (show decide (t.check ≠ 0) = true from by rw [hk]; rw [hk] at hd; exact hd)
    clear hd hk
    go_wp2
    go_ret
    refine ⟨?_, HB2.out⟩
    have h2 : (k != 0) = true := by simp [bne, hz]
    have h3 : t.check ≠ 0 := of_decide_eq_true HD.out
    simp [h3, hz]
    try exact h2
    try simpa using h2

abbrev nvFnM : Value := .func (.func 78) #[] #[]

set_option maxRecDepth 100000 in
set_option maxHeartbeats 2000000 in
theorem mIndex_any (ts : List T) (hts : ∀ t ∈ ts, t.size ≤ 1000000000000) (n₀ : Nat) (a : Option Addr) (c : Nat) (w : World) (hn : n₀ ≤ w.heap.size) (hA : IsArgs n₀ w ts a c) :
    Calls Tryz.prog 61 #[.slice a ts.length c, nvFnM] w fun e w' => ∃ j : Int, e = .returned (.int .i64 j) ∧ decide (0 ≤ j) = badL ts ∧ Below w.heap.size w w' := by
  have hlc : ts.length ≤ c ∧ c ≤ maxLen := ⟨hA.1, hA.2.1⟩
  unfold maxLen at hlc
  obtain ⟨hl1, hl2⟩ := hlc
  have HA := Lib.hid hA
  have HT := Lib.hid hts
  clear hA hts
  go_enter Tryz.func61, Tryz.ntmps61
  go_wp2
  go_loopw [8] (fun i wr => IdxI ts w i wr) (fun i _ => ts.length - (intOf i).toNat)
  case atStart => exact ⟨0, Nat.zero_le _, rfl, by simp, Below.refl _ _⟩
  case round =>
    obtain ⟨k, hk, rfl, hbd, hB⟩ := hrel
    have HBD := Lib.hid hbd
    have HB := Lib.hid hB
    have hbz := hB.size
    clear hbd hB
    by_cases hlt : k < ts.length
    · obtain ⟨b, o, s, a', c', rfl, hbn, hs, hswf, hc1, hc2, hA'⟩ := (HA.out.below (HB.out.mono hn)).elem (i := k) hlt
      have hk0 : (0 : Int) ≤ (k : Int) := Int.natCast_nonneg _
      have hk1 : (k : Int) < (ts.length : Int) := by omega
      have hbw : b < wr.heap.size := by omega
      have CN := Lib.hid (mNotValid_any s (HT.out s (List.mem_of_getElem? hs)) n₀ a' c' wr (by omega) hswf hA')
      have hst : badL (ts.drop k) = (decide (s.check ≠ 0) || badL (ts.drop (k + 1))) := by
        obtain ⟨hkl, hke⟩ := List.getElem?_eq_some_iff.1 hs
        rw [List.drop_eq_getElem_cons hkl, hke]; rfl
      have HSTEP := Lib.hid hst
      clear hs hswf hA' hst
      go_wp2_with fail
      refine CN.out.mono ?_
      rintro e w2 ⟨rfl, hb2⟩
      have HB2 := Lib.hid (HB.out.trans (hb2.mono hbz))
      clear hb2
      cases hd : decide (s.check ≠ 0)
      · have H0 := Lib.hid (show badL (ts.drop k) = badL (ts.drop (k + 1)) from by rw [HSTEP.out, hd]; rfl)
        clear hd
        go_wp2
        go_roundw
        case rel => exact ⟨k + 1, by omega, by go_num, HBD.out.trans H0.out, HB2.out⟩
        case measure => simp [intOf]; omega
      · have H0 := Lib.hid (show badL ts = true from by rw [HBD.out, HSTEP.out, hd]; rfl)
        clear hd
        go_wp2
        go_ret
        exact ⟨(k : Int), rfl, by rw [H0.out]; simp, HB2.out⟩
    · obtain rfl : k = ts.length := by omega
      have H0 := Lib.hid (show badL ts = false from by rw [HBD.out, List.drop_of_length_le (Nat.le_refl _)]; rfl)
      go_wp2
      go_ret
      exact ⟨-1, rfl, by rw [H0.out]; rfl, HB.out⟩

theorem mContains_any (ts : List T) (hts : ∀ t ∈ ts, t.size ≤ 1000000000000) (n₀ : Nat) (a : Option Addr) (c : Nat) (w : World) (hn : n₀ ≤ w.heap.size) (hA : IsArgs n₀ w ts a c) :
    Calls Tryz.prog 28 #[.slice a ts.length c, nvFnM] w fun e w' => e = .returned (.bool (badL ts)) ∧ Below w.heap.size w w' := by
  have CI := Lib.hid (mIndex_any ts hts n₀ a c w hn hA)
  clear hA hts
  go_enter Tryz.func28, Tryz.ntmps28
  go_wp2_with fail
  refine CI.out.mono ?_
  rintro e w2 ⟨j, rfl, hj, hb⟩
  have HJ := Lib.hid hj
  have HB := Lib.hid hb
  clear hj hb
  go_wp2
  go_ret
  exact ⟨by rw [← HJ.out]; rfl, HB.out⟩

theorem badL_false {ts : List T} (h : badL ts = false) : ∀ t ∈ ts, t.check = 0 := by
  intro t ht
  unfold badL at h
  rw [List.any_eq_false] at h
  simpa using h t ht
end Go.Proofs.YtbdabdjpgmnejaaGreat

/- Uf0: split off Uf. -/
namespace Go.Proofs.YtbdabdjpgmnejaaGreat
set_option linter.unusedVariables false
set_option linter.unusedSimpArgs false
open Go.RowKit Go.Maps

theorem ownsMap_exact {P : Program} {k : TypeId} {R : Value → Option (DataW Value × List MemPlace)} {w : World} {b n : Nat} {D : DataW Value} (h : w.ownsMap P k R b n D) : w.ownsMap P k R b (Maps.size D) D := by
  have := h.size_le
  obtain ⟨es, clock, hb, F, hs, rfl⟩ := h
  exact ⟨es, clock, hb, F, by simp [Maps.size, length_sorted], rfl⟩

def wfi (v : Int) : Prop := -9223372036854775808 ≤ v ∧ v ≤ 9223372036854775807
def upd {α : Type} (f : Int → Option α) (x : Int) (u : α) (v : Int) : Option α := if v = x then some u else f v
theorem wfi.wf {v : Int} (h : wfi v) : (Lit.int .i64 v).wf = true := WalkArith.wf_i64 h

end Go.Proofs.YtbdabdjpgmnejaaGreat

/- Norm in plain words; contract of the function that numbers variables. -/
namespace Go.Proofs.YtbdabdjpgmnejaaGreat
set_option linter.unusedVariables false
set_option linter.unusedSimpArgs false
open Go.RowKit Go.Maps

/-! ### A map from numbers to values -/
theorem zeroInt (w : World) : (zeroValue 3).run Tryz.prog w = .ok (.int .i64 0) w := by kernel_rfl
def MapI (W : World) (M n : Nat) (f : Int → Option Value) : Prop :=
  ∃ D : DataW Value, W.ownsMap Tryz.prog 3 heldR M n D ∧ Maps.size D = n ∧ ∀ v, wfi v → Maps.has D (.int .i64 v) = (f v).isSome ∧ ∀ u, f v = some u → ∀ z, D.atKey (.int .i64 v) z = .held u
theorem MapI.lt {W : World} {M n : Nat} {f : Int → Option Value} (h : MapI W M n f) : M < W.heap.size := by
  obtain ⟨D, h1, _⟩ := h; exact h1.lt
theorem MapI.kept {W W' : World} {M n : Nat} {f : Int → Option Value} (h : MapI W M n f) (hb : W'.heap[M]? = W.heap[M]?) : MapI W' M n f := by
  obtain ⟨D, ⟨es, clock, hm, r⟩, h2⟩ := h
  exact ⟨D, ⟨es, clock, hb.trans hm, r⟩, h2⟩
theorem MapI.made (w : World) : MapI (w.alloc (.map #[] 0)) w.heap.size 0 (fun _ => none) :=
  ⟨.map [], World.ownsMap_made w Tryz.prog 3 heldR, rfl, fun v _ => ⟨rfl, by simp⟩⟩
theorem MapI.look {W : World} {M n : Nat} {f : Int → Option Value} (h : MapI W M n f) {t e : TypeId} (ht : Tryz.prog.underlying t = some (.map 3 e)) {z : Value} (hz : (zeroValue e).run Tryz.prog W = .ok z W) {v : Int} (hv : wfi v) :
    (Instr.lookup t (.map (some M)) (.int .i64 v) true).run Tryz.prog W = .ok (.tuple #[(f v).getD z, .bool (f v).isSome]) W := by
  obtain ⟨D, h1, _, h3⟩ := h
  have hkey := keyOf_int_mk (P := Tryz.prog) (k := 3) Tryz.underlying3 hv.wf
  obtain ⟨q1, q2⟩ := h3 v hv
  obtain ⟨u, ps, hrun, hu⟩ := h1.look_ok keyInt ht hz (zd := .held z) (zp := []) rfl hkey
  rw [hrun, q1]
  cases hf : f v with
  | none =>
    rw [Maps.atKey_of_not_has (by rw [q1, hf]; rfl)] at hu
    simp only [heldR, Option.some.injEq, Prod.mk.injEq, DataW.held.injEq] at hu
    rw [hu.1]; rfl
  | some x =>
    rw [q2 x hf] at hu
    simp only [heldR, Option.some.injEq, Prod.mk.injEq, DataW.held.injEq] at hu
    rw [hu.1]; rfl
theorem MapI.len {W : World} {M n : Nat} {f : Int → Option Value} (h : MapI W M n f) {t e : TypeId} (ht : Tryz.prog.underlying t = some (.map 3 e)) (ty : TypeId) : (Builtin.len_ #[t] ty #[.map (some M)]).run Tryz.prog W = .ok (.int .i64 n) W := by
  obtain ⟨D, h1, h2, _⟩ := h
  rw [h1.len ht, h2]
theorem MapI.put {W : World} {M n : Nat} {f : Int → Option Value} (h : MapI W M n f) {t e : TypeId} (ht : Tryz.prog.underlying t = some (.map 3 e)) {v : Int} (hv : wfi v) (u : Value) (hn : n ≤ 1000000000000) :
    ∃ w', (Instr.mapUpdate t (.map (some M)) (.int .i64 v) u).run Tryz.prog W = .ok () w' ∧ MapI w' M (if (f v).isSome then n else n + 1) (upd f v u) ∧ W.grownBy w' (some M) := by
  obtain ⟨D, h1, h2, h3⟩ := h
  have hkey := keyOf_int_mk (P := Tryz.prog) (k := 3) Tryz.underlying3 hv.wf
  obtain ⟨w', hrun, r1, r2⟩ := h1.update keyInt ht (by unfold maxLen; omega) hkey (val := u) (d := .held u) (ps := []) rfl
  have hM := h1.isMap
  have hs : Maps.size (D.put (.int .i64 v) (.held u)) = if (f v).isSome then n else n + 1 := by rw [Maps.size_put (h1.tidy keyInt), (h3 v hv).1, h2]
  have r3 := ownsMap_exact r1
  rw [hs] at r3
  refine ⟨w', hrun, ⟨_, r3, hs, fun x hx => ?_⟩, r2⟩
  by_cases e : x = v
  · subst e
    refine ⟨by rw [Maps.has_put_same hM (show WideAt.IsKeyLit (.int .i64 x) from trivial)]; simp [upd], fun y hy z => ?_⟩
    simp only [upd, if_pos, Option.some.injEq] at hy
    rw [← hy]
    exact Maps.atKey_put_same (k := .int .i64 x) hM (show WideAt.IsKeyLit (.int .i64 x) from trivial) _ z
  · have hne : Lit.int .i64 x ≠ Lit.int .i64 v := by intro e'; injection e' with _ e'; exact e e'
    refine ⟨by rw [Maps.has_put_other hne, (h3 x hx).1]; simp [upd, e], fun y hy z => ?_⟩
    simp only [upd, if_neg e] at hy
    rw [Maps.atKey_put_other hne]
    exact (h3 x hx).2 y hy z

/-! ### Numbers of variables, as they come -/
def numF (N : List Int) (v : Int) : Option Value := if N.contains v then some (.int .i64 (ix N v)) else none
theorem numF_snoc {N : List Int} {v : Int} (h : v ∉ N) : numF (N ++ [v]) = upd (numF N) v (.int .i64 (N.length : Nat)) := by
  funext u
  unfold numF upd
  by_cases e : u = v
  · subst e
    rw [if_pos rfl, if_pos (by simp), ix_new h]
  · rw [if_neg e]
    show (if (N ++ [v]).contains u = true then some (Value.int .i64 (ix (N ++ [v]) u)) else none) = if N.contains u = true then some (Value.int .i64 (ix N u)) else none
    by_cases hu : u ∈ N
    · rw [if_pos (by simp [hu]), if_pos (by simpa using hu), ix_old hu]
    · rw [if_neg (by simp [hu, e]), if_neg (by simpa using hu)]
/-- The closure's state: a box that holds a map, which numbers N. -/
def NumR (W : World) (Bp Bm : Nat) (N : List Int) : Prop := W.cell? ⟨Bp, 0, none⟩ = some (.map (some Bm)) ∧ MapI W Bm N.length (numF N) ∧ Bp ≠ Bm
theorem NumR.kept {W W' : World} {Bp Bm : Nat} {N : List Int} (h : NumR W Bp Bm N) (h1 : W'.heap[Bp]? = W.heap[Bp]?) (h2 : W'.heap[Bm]? = W.heap[Bm]?) : NumR W' Bp Bm N :=
  ⟨(World.cell?_of_block (a := ⟨Bp, 0, none⟩) h1).trans h.1, h.2.1.kept h2, h.2.2⟩
theorem NumR.lt {W : World} {Bp Bm : Nat} {N : List Int} (h : NumR W Bp Bm N) : Bp < W.heap.size ∧ Bm < W.heap.size := ⟨World.block_lt_of_cell? W ⟨Bp, 0, none⟩ h.1, h.2.1.lt⟩
theorem NumR.below {W W' : World} {Bp Bm : Nat} {N : List Int} (h : NumR W Bp Bm N) (hb : Below W.heap.size W W') : NumR W' Bp Bm N := h.kept (hb.block _ h.lt.1) (hb.block _ h.lt.2)
def NmPost (Bp Bm : Nat) (N : List Int) (v : Int) (w : World) (e : Ending) (w' : World) : Prop := e = .returned (.int .i64 (ix (ddStep N v) v)) ∧ NumR w' Bp Bm (ddStep N v) ∧ w.grownBy w' (some Bm)

set_option maxRecDepth 100000 in
set_option maxHeartbeats 1000000 in
theorem number_any (N : List Int) (hN : N.length ≤ 1000000000000) (v : Int) (hv : wfi v) (Bp Bm : Nat) (w : World) (hR : NumR w Bp Bm N) :
    Calls Tryz.prog 116 #[.int .i64 v, .pointer (some ⟨Bp, 0, none⟩)] w (NmPost Bp Bm N v w) := by
  have hlk := hR.2.1.look Tryz.underlying126 (zeroInt w) hv
  have hln := hR.2.1.len Tryz.underlying126
  have hlt := hR.lt
  have HR := Lib.hid hR
  have hc := hR.1
  by_cases hin : v ∈ N
  · have hnf : numF N v = some (.int .i64 (ix N v)) := by unfold numF; rw [if_pos (by simpa using hin)]
    have hdd : ddStep N v = N := by unfold ddStep; rw [if_pos (by simpa using hin)]
    rw [hnf] at hlk
    simp only [Option.getD_some, Option.isSome_some] at hlk
    clear hR hnf hin
    go_enter Tryz.func116, Tryz.ntmps116
    go_wp2
    go_ret
    unfold NmPost
    rw [hdd]
    exact ⟨rfl, HR.out, grown_of_below (Below.refl _ _)⟩
  · have hnf : numF N v = none := by unfold numF; rw [if_neg (by simpa using hin)]
    have hdd : ddStep N v = N ++ [v] := by unfold ddStep; rw [if_neg (by simpa using hin)]
    obtain ⟨w', hpt, hM, hg⟩ := hR.2.1.put Tryz.underlying126 hv (.int .i64 (N.length : Nat)) hN
    rw [hnf] at hlk hM
    simp only [Option.getD_none, Option.isSome_none] at hlk
    have HIN := Lib.hid hin
    have HM := Lib.hid hM
    have HG := Lib.hid hg
    clear hR hnf hin hM hg
    go_enter Tryz.func116, Tryz.ntmps116
    go_wp2
    go_ret
    unfold NmPost
    rw [hdd, ix_new HIN.out]
    refine ⟨rfl, ⟨?_, ?_, HR.out.2.2⟩, HG.out⟩
    · exact (grown_cell HG.out hlt.1 HR.out.2.2).trans hc
    · have := HM.out
      simp only [Option.isSome_none, Bool.false_eq_true, if_false] at this
      rw [numF_snoc HIN.out]
      simpa using this

end Go.Proofs.YtbdabdjpgmnejaaGreat
