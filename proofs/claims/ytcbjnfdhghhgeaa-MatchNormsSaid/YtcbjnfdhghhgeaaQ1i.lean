/- Q1i: joined of Umk, AC0, Shf, AwC. -/
import Derived.Test.YtcbjnfdhghhgeaaUme
import Derived.Test.YtcbjnfdhghhgeaaStv
import Derived.Test.YtcbjnfdhghhgeaaQ1c
import Derived.Deep.RegionHeld3
import Derived.Test.YtcbjnfdhghhgeaaQ1f
/- Both sides; a term and itself; a variable and a term. Plain words for UnifySides and UnifySolves. -/
namespace Go.Proofs.Ytcbjnfdhghhgeaa
set_option linter.unusedVariables false
set_option linter.unusedSimpArgs false
open Go.RowKit

theorem ints_slice {w : World} {v : Value} {zs : List Int} (h : IsInts w v zs) : ∃ a c, v = .slice a zs.length c ∧ IsIs w.heap.size w zs a c ∧ (a = none → c = 0) := by
  rcases h with ⟨rfl, rfl⟩ | ⟨g, cap, rfl, h2, h3, h4, h5⟩
  · exact ⟨none, 0, rfl, ⟨by simp, by simp [maxLen], .inl rfl⟩, fun _ => rfl⟩
  · exact ⟨_, cap, rfl, ⟨h3, h4, .inr ⟨g, 0, rfl, h2, fun j z hz => by rw [Nat.zero_add]; exact h5 j z hz⟩⟩, fun h => by cases h⟩
theorem varsOf_length (pre : List (Nat × T)) : (varsOf pre).length ≤ pre.length := by
  suffices h : ∀ (pre : List (Nat × T)) (acc : List Int), (pre.foldl varStep acc).length ≤ acc.length + pre.length by simpa [varsOf] using h pre []
  intro pre
  induction pre with
  | nil => intro acc; simp
  | cons x pre ih => intro acc; rw [List.foldl_cons]; have h1 := ih (varStep acc x); have h2 := varStep_length acc x; simp; omega
def vars1 (t : T) : List Int := varsOf (T.subs 1 t)
theorem vars1_length (t : T) : (vars1 t).length ≤ t.size := by have := varsOf_length (T.subs 1 t); rw [T.subs_length] at this; exact this
theorem vt_sub {f : Int → T} {v : Int} (h0 : 0 ≤ v) : (vt v).sub f = f v := by
  rw [T.sub_neg (by rw [vt_head]; omega), vt_head, show -1 - (-1 - v) = v from by omega]
theorem mgu_self (a : T) : IsMgu (fun θ => a.sub θ = a.sub θ) [] := by
  refine ⟨by simp, by simp, by simp, by simp, by simp, rfl, fun θ _ v h0 _ => ?_⟩
  exact (vt_sub h0).symm
theorem IsMgu.swap {a b : T} {s : Sb} (h : IsMgu (fun θ => a.sub θ = b.sub θ) s) : IsMgu (fun θ => b.sub θ = a.sub θ) s :=
  ⟨h.rise, h.low, h.good, h.free, h.orient, h.unif.symm, fun θ hθ => h.most θ hθ.symm⟩
/-- A variable and a term without it have a unifier. -/
theorem var_some {a : T} (hg : bad (T.subs 1 a) = false) {v : Int} (h0 : 0 ≤ v) (hn : -1 - v ∉ a.heads) : ∃ θ : Int → T, (vt v).sub θ = a.sub θ := by
  refine ⟨fun u => if u = v then a else vt u, ?_⟩
  rw [vt_sub h0, if_pos rfl]
  refine (sub_self _ _ a (Nat.le_refl _) hg fun g hg2 hneg => ?_).symm
  rw [if_neg]
  intro e
  exact hn (by rw [← e, show -1 - (-1 - g) = g from by omega]; exact hg2)
/-- What is put for a variable of a term is no larger than the term put. -/
theorem size_sub_of {f : Int → T} : ∀ (N : Nat) (t : T), t.size ≤ N → bad (T.subs 1 t) = false → ∀ h ∈ t.heads, h < 0 → (f (-1 - h)).size ≤ (t.sub f).size := by
  intro N
  induction N with
  | zero => intro t ht; have := T.size_pos t; omega
  | succ N ih =>
    intro t ht hg h hh hneg
    rw [T.heads_eq] at hh
    by_cases q : t.head < 0
    · rw [good_leaf hg q] at hh
      simp at hh
      subst hh
      rw [T.sub_neg q]
      exact Nat.le_refl _
    · rcases List.mem_cons.1 hh with rfl | hh
      · exact absurd hneg q
      · simp only [List.mem_flatten, List.mem_map] at hh
        obtain ⟨_, ⟨x, hx, rfl⟩, hh⟩ := hh
        obtain ⟨i, hi⟩ := List.getElem?_of_mem hx
        have h1 := ih x (by have := size_args hx; omega) (good_arg hg hi) h hh hneg
        have h2 : x.sub f ∈ (t.sub f).args := by
          rw [T.sub_pos q]
          exact List.mem_map.2 ⟨x, hx, rfl⟩
        have := size_args h2
        omega
/-- A variable and another term with it have none. -/
theorem var_none {a : T} (hg : bad (T.subs 1 a) = false) {v : Int} (h0 : 0 ≤ v) (hh : -1 - v ∈ a.heads) (hn : a.head ≠ -1 - v) (θ : Int → T) : (vt v).sub θ ≠ a.sub θ := by
  rw [vt_sub h0]
  intro e
  rw [T.heads_eq] at hh
  have q : ¬ a.head < 0 := fun q => by
    rw [good_leaf hg q] at hh
    simp at hh
    exact hn hh.symm
  rcases List.mem_cons.1 hh with hh | hh
  · exact hn hh.symm
  · simp only [List.mem_flatten, List.mem_map] at hh
    obtain ⟨_, ⟨x, hx, rfl⟩, hh⟩ := hh
    obtain ⟨i, hi⟩ := List.getElem?_of_mem hx
    have h1 := size_sub_of (f := θ) _ x (Nat.le_refl _) (good_arg hg hi) _ hh (by omega)
    rw [show -1 - (-1 - v) = v from by omega, e] at h1
    have h2 : x.sub θ ∈ (a.sub θ).args := by
      rw [T.sub_pos q]
      exact List.mem_map.2 ⟨x, hx, rfl⟩
    have := size_args h2
    omega
/-- No variable that a most general unifier binds is left in what it binds. -/
theorem IsMgu.not_in {E : (Int → T) → Prop} {s : Sb} (h : IsMgu E s) {p p' : Int × T} (hp : p ∈ s) (hp' : p' ∈ s) : p.1 ∉ varsOf (T.subs 1 p'.2) := by
  intro hv
  obtain ⟨g, hg, hneg, e⟩ := (mem_vars p'.2 p.1).1 hv
  obtain ⟨q, hq, rfl⟩ := List.mem_map.1 hg
  have := h.free p' hp' q hq hneg
  rw [← e, bnd_of_mem hp] at this
  exact absurd this (by simp)
/-- Applied twice it is as once. -/
theorem IsMgu.twice {E : (Int → T) → Prop} {s : Sb} (h : IsMgu E s) (v : Int) (h0 : 0 ≤ v) : (ofS s v).sub (ofS s) = ofS s v := by
  cases hb : bnd s v
  · rw [ofS_unbound hb, vt_sub h0, ofS_unbound hb]
  · have hm := mem_of_bnd h.rise hb
    refine sub_id _ _ (Nat.le_refl _) (h.good _ hm) 1 (fun q hq hn => ?_)
    exact ofS_unbound (h.free _ hm q hq hn)

/-! ### What Mgu answers, as a relation -/
def MguR (x y : T) (s : Sb) (b : Bool) (k : Int) : Prop :=
  ((x.check ≠ 0 ∨ y.check ≠ 0) ∧ s = [] ∧ b = false ∧ k = 1) ∨
  ((x.check = 0 ∧ y.check = 0) ∧ (((∀ θ : Int → T, x.sub θ ≠ y.sub θ) ∧ s = [] ∧ b = false ∧ k = 0) ∨
    ∃ m, IsMgu (fun θ => x.sub θ = y.sub θ) m ∧ ((errL m ≠ 0 ∧ s = [] ∧ b = false ∧ k = errL m) ∨ (errL m = 0 ∧ s = m ∧ b = true ∧ k = 0))))
theorem errL_ne_one {s : Sb} (h : ∀ p ∈ s, bad (T.subs 1 p.2) = false) : errL s ≠ 1 := by
  induction s with
  | nil => simp [errL]
  | cons p s ih =>
    rw [errL]
    split
    · exact ih fun q hq => h q (List.mem_cons_of_mem _ hq)
    · have hg := h p (by simp)
      unfold T.check
      rw [hg]
      split
      · decide
      · split
        · decide
        · simp
theorem errL_small {s : Sb} (h : errL s = 0) : ∀ p ∈ s, p.2.size ≤ 1000000000000 := by
  induction s with
  | nil => simp
  | cons q s ih =>
    rw [errL] at h
    split at h
    · rename_i hc
      intro p hp
      rcases List.mem_cons.1 hp with rfl | hp
      · exact Nat.le_trans (check_ok hc).1 (by omega)
      · exact ih h p hp
    · rename_i hc; exact absurd h hc
theorem mgu_key {x y : T} {w w' : World} {e : Ending} (h : MguPost x y w e w') : ∃ (s : Sb) (b : Bool) (k : Int) (a : Option Addr) (c : Nat), e = .returned (.tuple #[.slice a s.length c, .bool b, .int .i64 k]) ∧ IsBs w'.heap.size w' s a c ∧ Below w.heap.size w w' ∧ MguR x y s b k := by
  rcases h with ⟨hb, a, c, h1, h2, h3⟩ | ⟨hg, ⟨hn, a, c, h1, h2, h3⟩ | ⟨s, hM, ⟨he, a, c, h1, h2, h3⟩ | ⟨he, a, c, h1, h2, h3⟩⟩⟩
  · exact ⟨_, _, _, a, c, h1, h2, h3, .inl ⟨hb, rfl, rfl, rfl⟩⟩
  · exact ⟨_, _, _, a, c, h1, h2, h3, .inr ⟨hg, .inl ⟨hn, rfl, rfl, rfl⟩⟩⟩
  · exact ⟨_, _, _, a, c, h1, h2, h3, .inr ⟨hg, .inr ⟨s, hM, .inl ⟨he, rfl, rfl, rfl⟩⟩⟩⟩
  · exact ⟨_, _, _, a, c, h1, h2, h3, .inr ⟨hg, .inr ⟨s, hM, .inr ⟨he, rfl, rfl, rfl⟩⟩⟩⟩
theorem MguR.fn {x y : T} {s s' : Sb} {b b' : Bool} {k k' : Int} (h : MguR x y s b k) (h' : MguR x y s' b' k') : s = s' ∧ b = b' ∧ k = k' := by
  rcases h with ⟨hb, rfl, rfl, rfl⟩ | ⟨hg, h⟩
  · rcases h' with ⟨_, rfl, rfl, rfl⟩ | ⟨hg, _⟩
    · exact ⟨rfl, rfl, rfl⟩
    · rcases hb with hb | hb
      · exact absurd hg.1 hb
      · exact absurd hg.2 hb
  · rcases h' with ⟨hb, rfl, rfl, rfl⟩ | ⟨_, h'⟩
    · rcases hb with hb | hb
      · exact absurd hg.1 hb
      · exact absurd hg.2 hb
    · rcases h with ⟨hn, rfl, rfl, rfl⟩ | ⟨m, hM, h⟩
      · rcases h' with ⟨_, rfl, rfl, rfl⟩ | ⟨m, hM, _⟩
        · exact ⟨rfl, rfl, rfl⟩
        · exact absurd hM.unif (hn _)
      · rcases h' with ⟨hn, rfl, rfl, rfl⟩ | ⟨m', hM', h'⟩
        · exact absurd hM.unif (hn _)
        · obtain rfl := hM.unique hM'
          rcases h with ⟨he, rfl, rfl, rfl⟩ | ⟨he, rfl, rfl, rfl⟩ <;> rcases h' with ⟨he', rfl, rfl, rfl⟩ | ⟨he', rfl, rfl, rfl⟩
          · exact ⟨rfl, rfl, rfl⟩
          · exact absurd he' he
          · exact absurd he he'
          · exact ⟨rfl, rfl, rfl⟩
theorem MguR.swap {x y : T} {s : Sb} {b : Bool} {k : Int} (h : MguR x y s b k) : MguR y x s b k := by
  rcases h with ⟨hb, h⟩ | ⟨hg, ⟨hn, h⟩ | ⟨m, hM, h⟩⟩
  · exact .inl ⟨hb.symm, h⟩
  · exact .inr ⟨hg.symm, .inl ⟨fun θ e => hn θ e.symm, h⟩⟩
  · exact .inr ⟨hg.symm, .inr ⟨m, hM.swap, h⟩⟩
theorem MguR.good {x y : T} {s : Sb} {b : Bool} {k : Int} (h : MguR x y s b k) (hk : k ≠ 1) : x.check = 0 ∧ y.check = 0 := by
  rcases h with ⟨_, _, _, rfl⟩ | ⟨hg, _⟩
  · exact absurd rfl hk
  · exact hg
theorem MguR.self {x : T} {s : Sb} {b : Bool} {k : Int} (h : MguR x x s b k) (hx : x.check = 0) : s = [] ∧ b = true ∧ k = 0 := by
  have h2 : MguR x x [] true 0 := .inr ⟨⟨hx, hx⟩, .inr ⟨[], mgu_self x, .inr ⟨rfl, rfl, rfl, rfl⟩⟩⟩
  exact h.fn h2
theorem vt_check {v : Int} (h0 : 0 ≤ v) (h1 : v ≤ 255) : (vt v).check = 0 := by
  have ho : okB (-1 - v) 0 = true := by
    unfold okB
    rw [if_pos (by omega), Bool.and_eq_true]
    exact ⟨rfl, decide_eq_true (by omega)⟩
  have hb : bad (T.subs 1 (vt v)) = false := by
    show (!okB (-1 - v) 0 || false) = false
    rw [ho]
    rfl
  unfold T.check
  rw [hb]
  simp [vt, T.size, T.sizes, T.depth, T.depths]
theorem MguR.var {a : T} {v : Int} {s : Sb} {b : Bool} {k : Int} (h : MguR (vt v) a s b k) (h0 : 0 ≤ v) (h1 : v ≤ 255) (ha : a.check = 0) (hk : k = 0) : b = (decide (a.head = -1 - v) || !decide (v ∈ varsOf (T.subs 1 a))) := by
  have hg := (check_ok ha).2.2
  have hm : v ∈ varsOf (T.subs 1 a) ↔ -1 - v ∈ a.heads := by
    rw [mem_vars]
    constructor
    · rintro ⟨g, hg, _, rfl⟩
      rw [show -1 - (-1 - g) = g from by omega]
      exact hg
    · intro h
      exact ⟨_, h, by omega, by omega⟩
  rcases h with ⟨hb, _⟩ | ⟨_, ⟨hn, _, rfl, _⟩ | ⟨m, hM, ⟨he, _, _, rfl⟩ | ⟨he, _, rfl, _⟩⟩⟩
  · rcases hb with hb | hb
    · exact absurd (vt_check h0 h1) hb
    · exact absurd ha hb
  · symm
    rw [Bool.or_eq_false_iff]
    constructor
    · rw [decide_eq_false_iff_not]
      intro e
      refine hn (ofS []) ?_
      rw [show a = vt v from ?_]
      obtain ⟨hd, ar⟩ := a
      have := good_leaf hg (by rw [e]; omega)
      simp only [T.head, T.args] at e this
      subst e this
      rfl
    · rw [Bool.not_eq_false', decide_eq_true_iff, hm]
      by_cases q : -1 - v ∈ a.heads
      · exact q
      · obtain ⟨θ, e⟩ := var_some hg h0 q
        exact absurd e (hn θ)
  · exact absurd hk he
  · symm
    rw [Bool.or_eq_true]
    by_cases q : a.head = -1 - v
    · exact .inl (by simpa using q)
    · refine .inr ?_
      rw [Bool.not_eq_true', decide_eq_false_iff_not, hm]
      intro hh
      exact var_none hg h0 hh q _ hM.unif
theorem app_ok {s : Sb} {t : T} (h : appE s t = 0) : rightS 0 s = true ∧ t.check = 0 ∧ appT s t = t.sub (ofS s) ∧ (t.sub (ofS s)).check = 0 := by
  unfold appE at h
  split at h
  · rename_i hg
    have := hg
    simp [goodA] at this
    refine ⟨this.1, this.2, ?_, h⟩
    unfold appT endT
    rw [if_pos hg, if_pos h]
  · cases h
theorem app_of {s : Sb} {t : T} (hs : rightS 0 s = true) (ht : t.check = 0) (hc : (t.sub (ofS s)).check = 0) : appE s t = 0 ∧ appT s t = t.sub (ofS s) := by
  have hg : goodA s t = true := by simp [goodA, hs, ht]
  unfold appT appE endT
  rw [if_pos hg, if_pos hg, if_pos hc]
  exact ⟨hc, rfl⟩
theorem ofS_check {s : Sb} (h : rightS 0 s = true) {z : Int} (h0 : 0 ≤ z) (h1 : z ≤ 255) : (ofS s z).check = 0 := by
  cases hb : bnd s z
  · rw [ofS_unbound hb]; exact vt_check h0 h1
  · obtain ⟨i, x, hi, e1, e2⟩ : ∃ (i : Nat) (x : Int × T), s[i]? = some x ∧ x.1 = z ∧ ofS s z = x.2 := by
      clear h
      induction s with
      | nil => simp [bnd] at hb
      | cons p s ih =>
        obtain ⟨v, t⟩ := p
        by_cases e : v = z
        · exact ⟨0, (v, t), rfl, e, by simp [ofS, e]⟩
        · have hb' : bnd s z = true := by
            simp [bnd, e] at hb ⊢
            exact hb
          obtain ⟨i, x, hi, e1, e2⟩ := ih hb'
          exact ⟨i + 1, x, by simpa using hi, e1, by rw [ofS, if_neg e]; exact e2⟩
    rw [e2]
    exact (rightS_low h hi).2.2.1
theorem errL_check {s : Sb} (h : errL s = 0) : ∀ p ∈ s, p.2.check = 0 := by
  induction s with
  | nil => simp
  | cons q s ih =>
    rw [errL] at h
    split at h
    · rename_i hc
      intro p hp
      rcases List.mem_cons.1 hp with rfl | hp
      · exact hc
      · exact ih h p hp
    · rename_i hc; exact absurd h hc
/-- What a most general unifier is behind another one. -/
theorem most_key {x y : T} {u s : Sb} {b : Bool} {k : Int} (hR : MguR x y s b k) (hk : k = 0) (hf : appE u x = 0) (hg : appE u y = 0) (he : appT u x = appT u y) :
    b = true ∧ (∀ p ∈ s, p.2.size ≤ 1000000000000) ∧ ∀ p ∈ s, (0 ≤ p.1 ∧ p.1 ≤ 255) ∧ appE u (vt p.1) = 0 ∧ appE u p.2 = 0 ∧ appT u (vt p.1) = appT u p.2 := by
  obtain ⟨hu, _, e1, _⟩ := app_ok hf
  obtain ⟨_, _, e2, _⟩ := app_ok hg
  rw [e1, e2] at he
  rcases hR with ⟨_, _, _, rfl⟩ | ⟨_, ⟨hn, _⟩ | ⟨m, hM, ⟨he', _, _, rfl⟩ | ⟨he', rfl, rfl, _⟩⟩⟩
  · cases hk
  · exact absurd he (hn _)
  · exact absurd hk he'
  · refine ⟨rfl, errL_small he', fun p hp => ?_⟩
    have hl := hM.low p hp
    have h1 := hM.most _ he p.1 hl.1 hl.2
    rw [ofS_mem hM.rise hp] at h1
    have hc := ofS_check hu hl.1 hl.2
    have hv : (vt p.1).sub (ofS u) = ofS u p.1 := vt_sub hl.1
    obtain ⟨a1, a2⟩ := app_of hu (vt_check hl.1 hl.2) (by rw [hv]; exact hc)
    obtain ⟨a3, a4⟩ := app_of (t := p.2) hu (errL_check he' p hp) (by rw [← h1]; exact hc)
    exact ⟨hl, a1, a3, by rw [a2, a4, hv, h1]⟩

theorem appT_small {s : Sb} {t : T} : (appT s t).size ≤ 1000000000000 := by
  unfold appT
  split
  · unfold endT
    split
    · rename_i h; exact Nat.le_trans (check_ok h).1 (by omega)
    · simp [Z0, T.size, T.sizes]
  · simp [Z0, T.size, T.sizes]


end Go.Proofs.Ytcbjnfdhghhgeaa

/- A block of cells, in every later world: what walks of examples keep. -/
namespace Go.Proofs.Ytcbjnfdhghhgeaa
set_option linter.unusedVariables false
set_option linter.unusedSimpArgs false
open Go.RowKit

/-- A block of cells, in every later world. -/
def Cs (b : Nat) (cs : List Value) (X : World) : Prop := b < X.heap.size ∧ ∀ i u, cs[i]? = some u → X.cell? ⟨b, i, none⟩ = some u
theorem later_cs (W : World) (cs : Array Value) (ty : TypeId) : Later (Cs W.heap.size cs.toList) (W.alloc (.cells cs ty)) := fun X hX =>
  ⟨by have := hX.size; simp at this; omega, fun i u hu => (hX.cell (p := ⟨W.heap.size, i, none⟩) (by simp)).trans (by
    have h := MapKept.heap_alloc W (.cells cs ty)
    simp only [World.cell?, h.1]
    simpa using hu)⟩
theorem Later.pushC {F : World → Prop} {W W' : World} (k : Later F W) (hb : Below W.heap.size W W') (cs : Array Value) (ty : TypeId) : Later (fun X => Cs W'.heap.size cs.toList X ∧ F X) (W'.alloc (.cells cs ty)) :=
  (k.mv (hb.alloc hb.size _)).and (later_cs W' cs ty)
theorem Later.step {F : World → Prop} {W W' : World} (k : Later F W) (hb : Below W.heap.size W W') : Later F W' := k.mv hb

theorem bl_call {w X u : World} (hX : Below w.heap.size w X) (hu : Below X.heap.size X u) : Below w.heap.size w u := hX.trans (hu.mono hX.size)
theorem vc_lt {b : Nat} {h : Int} {a : Option Addr} {n c : Nat} {X : World} (h : Vc b h a n c X) : b < X.heap.size := World.block_lt_of_cell? X ⟨b, 0, none⟩ h.1
end Go.Proofs.Ytcbjnfdhghhgeaa

/- Contract of Shift. -/
namespace Go.Proofs.Ytcbjnfdhghhgeaa
set_option linter.unusedVariables false
set_option linter.unusedSimpArgs false
open Go.RowKit

def offS (y : Int) (v : Int) : T := vt (v + y)
def goodH (t : T) (y : Int) : Bool := decide (t.check = 0) && decide (0 ≤ y) && decide (y ≤ 255)
def shfT (t : T) (y : Int) : T := if goodH t y then endT (t.sub (offS y)) else Z0
def shfE (t : T) (y : Int) : Int := if goodH t y then (t.sub (offS y)).check else 1
theorem shf_size {t : T} (ht : t.size ≤ 400) (y : Int) : (t.sub (offS y)).size ≤ 1000000000000 :=
  Nat.le_trans (T.sub_size (n := 1) (by omega) (fun v => by simp [offS, vt, T.size, T.sizes]) t) (by omega)

set_option maxRecDepth 100000 in
set_option maxHeartbeats 4000000 in
theorem shift_any (t : T) (ht : t.size ≤ 1000000000000) (y : Int) (n₀ : Nat) (at_ : Option Addr) (ct : Nat) (w : World) (hn : n₀ ≤ w.heap.size) (htw : (Lit.int .i64 t.head).wf = true) (hA : IsArgs n₀ w t.args at_ ct) :
    Calls Try.prog 29 #[tm t.head at_ t.args.length ct, .int .i64 y] w (TEPost (shfT t y) (shfE t y) w) := by
  obtain ⟨w2, hw2⟩ : ∃ w2, (w.alloc (tmCells t.head at_ t.args.length ct)).alloc (tmCells 0 none 0 0) = w2 := ⟨_, rfl⟩
  have hB2 : Below w.heap.size w w2 := by rw [← hw2]; exact ((Below.refl _ w).alloc (Nat.le_refl _) _).alloc (by simp) _
  have hs2 : w2.heap.size = w.heap.size + 2 := by rw [← hw2]; simp
  have L2 := Lib.hid (show ∀ W, Below w2.heap.size w2 W → W.cell? ⟨w.heap.size, 0, none⟩ = some (.int .i64 t.head) ∧ W.cell? ⟨w.heap.size, 1, none⟩ = some (.slice at_ t.args.length ct) ∧ W.cell? ⟨w.heap.size + 1, 0, none⟩ = some (.int .i64 0) ∧ W.cell? ⟨w.heap.size + 1, 1, none⟩ = some (.slice none 0 0) ∧ W.frozen? ⟨w.heap.size + 1, 0, none⟩ = false ∧ W.frozen? ⟨w.heap.size + 1, 1, none⟩ = false from fun W hW =>
    ⟨(hW.cell (p := ⟨w.heap.size, 0, none⟩) (by simp; omega)).trans (by rw [← hw2]; simp [go_sem]), (hW.cell (p := ⟨w.heap.size, 1, none⟩) (by simp; omega)).trans (by rw [← hw2]; simp [go_sem]), (hW.cell (p := ⟨w.heap.size + 1, 0, none⟩) (by simp; omega)).trans (by rw [← hw2]; simp [go_sem]), (hW.cell (p := ⟨w.heap.size + 1, 1, none⟩) (by simp; omega)).trans (by rw [← hw2]; simp [go_sem]), (hW.frozen (p := ⟨w.heap.size + 1, 0, none⟩) (by simp; omega)).trans (by rw [← hw2]; simp [go_sem]), (hW.frozen (p := ⟨w.heap.size + 1, 1, none⟩) (by simp; omega)).trans (by rw [← hw2]; simp [go_sem])⟩)
  have LS := Lib.hid (show ∀ W, Below w2.heap.size w2 W → IsArgs n₀ W t.args at_ ct ∧ Below w.heap.size w W ∧ n₀ ≤ W.heap.size from fun W hW => by
    have h := hB2.trans (hW.mono hB2.size)
    exact ⟨hA.below (h.mono hn), h, Nat.le_trans hn h.size⟩)
  have HTW := Lib.hid htw
  have HS2 := Lib.hid hs2
  clear hA hB2 hs2 htw
  obtain ⟨c0, c1, r0, r1, rf0, rf1⟩ := L2.out w2 (Below.refl _ _)
  by_cases qy : y < 0 ∨ 255 < y
  · have hga : goodH t y = false := by rcases qy with h | h <;> simp [goodH] <;> intros <;> omega
    have hT : shfT t y = Z0 := by unfold shfT; rw [hga]; rfl
    have hE : shfE t y = 1 := by unfold shfE; rw [hga]; rfl
    have HF := Lib.hid (LS.out w2 (Below.refl _ _)).2.1
    rcases qy with q | q
    · go_enter Try.func29, Try.ntmps29
      go_wp2
      refine bodyPost_ret (v := .tuple #[tm 0 none 0 0, .int .i64 1]) (by simp [results, Try.results29, go_sem, r0, r1]) rfl ?_
      first | rw [hT, hE] | skip
      exact ⟨none, 0, rfl, wf_z0, isArgs_z _ _, (HF.out.setCell (p := ⟨w.heap.size + 1, 0, none⟩) (by simp) _).setCell (p := ⟨w.heap.size + 1, 1, none⟩) (by simp) _⟩
    · have q' : ¬ y < 0 := by omega
      go_enter Try.func29, Try.ntmps29
      go_wp2
      refine bodyPost_ret (v := .tuple #[tm 0 none 0 0, .int .i64 1]) (by simp [results, Try.results29, go_sem, r0, r1]) rfl ?_
      first | rw [hT, hE] | skip
      exact ⟨none, 0, rfl, wf_z0, isArgs_z _ _, (HF.out.setCell (p := ⟨w.heap.size + 1, 0, none⟩) (by simp) _).setCell (p := ⟨w.heap.size + 1, 1, none⟩) (by simp) _⟩
  have qy0 : ¬ y < 0 := by omega
  have qy1 : ¬ 255 < y := by omega
  have qz0 : 0 ≤ y := by omega
  have qz1 : y ≤ 255 := by omega
  go_enter Try.func29, Try.ntmps29
  go_wp2_with fail
  clear c0 c1 r0 r1 rf0 rf1 hw2
  have ls := LS.out w2 (Below.refl _ _)
  refine (check_any t ht n₀ at_ ct w2 ls.2.2 HTW.out ls.1).mono ?_
  clear ls
  rintro e w4 ⟨rfl, hb4⟩
  have HB4 := Lib.hid hb4
  obtain ⟨c0, c1, r0, r1, rf0, rf1⟩ := L2.out w4 hb4
  have HF := Lib.hid (LS.out w4 hb4).2.1
  by_cases q2 : t.check = 0
  · rw [q2]
    have hga : goodH t y = true := by simp [goodH, q2]; omega
    have hT : shfT t y = endT (t.sub (offS y)) := by unfold shfT; rw [if_pos hga]
    have hE : shfE t y = (t.sub (offS y)).check := by unfold shfE; rw [if_pos hga]
    obtain ⟨hts, _, htg⟩ := check_ok q2
    have hxs := shf_size hts y
    have ls := LS.out w4 hb4
    have CR := Lib.hid (rebuild_any _ enters_off (.int .i64 y) (offS y) t.size t (Nat.le_refl _) ht htg n₀ at_ ct w4 ls.2.2 HTW.out ls.1 (fun X v hX h0 h1 => offRep_any y v h0 h1 qz0 qz1 X))
    have KP := Lib.hid (show ∀ W, Below w4.heap.size w4 W → W.cell? ⟨w.heap.size + 1, 0, none⟩ = some (.int .i64 0) ∧ W.cell? ⟨w.heap.size + 1, 1, none⟩ = some (.slice none 0 0) ∧ W.frozen? ⟨w.heap.size + 1, 0, none⟩ = false ∧ W.frozen? ⟨w.heap.size + 1, 1, none⟩ = false from fun W hW => (L2.out W (HB4.out.trans (hW.mono HB4.out.size))).2.2)
    generalize t.sub (offS y) = x at hxs hT hE CR ⊢
    clear hb4 hga hts htg ls
    go_wp2_with fail
    clear c0 c1 r0 r1 rf0 rf1
    refine CR.out.mono ?_
    rintro e w6 ⟨a6, c6, rfl, hw6, hI6, hb6⟩
    have HB6 := Lib.hid hb6
    have HI6 := Lib.hid hI6
    have HW6 := Lib.hid hw6
    clear hb6 hI6 hw6
    go_wp2_with fail
    refine (checked_any x hxs _ a6 c6 w6 (fun b h => h.2) HW6.out HI6.out).mono ?_
    rintro e w7 ⟨a7, c7, rfl, hw7, hA7, hb7⟩
    have hB7 : Below w4.heap.size w4 w7 := HB6.out.trans (hb7.mono HB6.out.size)
    obtain ⟨s0, s1, sf0, sf1⟩ := KP.out w7 hB7
    have HB7 := Lib.hid hB7
    have HA7 := Lib.hid hA7
    have HW7 := Lib.hid hw7
    have hz67 := hb7.size
    clear hB7 hA7 hw7 hb7
    go_wp2
    refine bodyPost_ret (v := .tuple #[tm (endT x).head a7 (endT x).args.length c7, .int .i64 x.check]) (by simp [results, Try.results29, go_sem, s0, s1]) rfl ?_
    first | rw [hT, hE] | skip
    have hw7' : Below w.heap.size w w7 := HF.out.trans (HB7.out.mono HF.out.size)
    have hz5 : w.heap.size + 2 ≤ w4.heap.size := by have h1 := HB4.out.size; have := HS2.out; omega
    exact ⟨a7, c7, rfl, HW7.out, (HA7.out.keep (ok' := fun b => b < ((w7.setCell ⟨w.heap.size + 1, 0, none⟩ (.int .i64 (endT x).head)).setCell ⟨w.heap.size + 1, 1, none⟩ (.slice a7 (endT x).args.length c7)).heap.size) (fun b hb => (Below.heap_setCell _ _ _ _ (by have := hb.1; show b ≠ w.heap.size + 1; omega)).trans (Below.heap_setCell _ _ _ _ (by have := hb.1; show b ≠ w.heap.size + 1; omega))) (fun b hb => by have := hb.2; simp; omega)).toArgs (fun b h => h), (hw7'.setCell (p := ⟨w.heap.size + 1, 0, none⟩) (by simp) _).setCell (p := ⟨w.heap.size + 1, 1, none⟩) (by simp) _⟩
  · have hga : goodH t y = false := by simp [goodH, q2]
    have hT : shfT t y = Z0 := by unfold shfT; rw [hga]; rfl
    have hE : shfE t y = 1 := by unfold shfE; rw [hga]; rfl
    generalize t.check = k at q2 ⊢
    have hne : (k == 0) = false := by simpa using q2
    clear hb4
    go_wp2
    refine bodyPost_ret (v := .tuple #[tm 0 none 0 0, .int .i64 1]) (by simp [results, Try.results29, go_sem, r0, r1]) rfl ?_
    first | rw [hT, hE] | skip
    exact ⟨none, 0, rfl, wf_z0, isArgs_z _ _, (HF.out.setCell (p := ⟨w.heap.size + 1, 0, none⟩) (by simp) _).setCell (p := ⟨w.heap.size + 1, 1, none⟩) (by simp) _⟩

end Go.Proofs.Ytcbjnfdhghhgeaa

/- AwC: see AC0. -/
