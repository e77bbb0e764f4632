/- The solver's state, and what each of its steps makes of it. -/
import Derived.Test.YtcbjnfdhghhgeaaRo3
namespace Go.Proofs.Ytcbjnfdhghhgeaa
set_option linter.unusedVariables false
set_option linter.unusedSimpArgs false
open Go.RowKit

mutual
theorem good_subs (l : Nat) : (t : T) → bad (T.subs l t) = false → ∀ q ∈ T.subs l t, bad (T.subs 1 q.2) = false
  | .node h ts => by
    intro hb q hq
    simp only [T.subs, List.mem_cons] at hq
    rcases hq with rfl | hq
    · rw [bad_level 1 l]; exact hb
    · simp only [bad, T.subs, List.any_cons, Bool.or_eq_false_iff] at hb
      exact goods_subs (l + 1) ts (by simpa only [bad] using hb.2) q hq
theorem goods_subs (l : Nat) : (ts : List T) → bad (T.subss l ts) = false → ∀ q ∈ T.subss l ts, bad (T.subs 1 q.2) = false
  | [] => by intro _ q hq; simp [T.subss] at hq
  | t :: ts => by
    intro hb q hq
    simp only [bad, T.subss, List.any_append, Bool.or_eq_false_iff] at hb
    simp only [T.subss, List.mem_append] at hq
    rcases hq with hq | hq
    · exact good_subs l t (by simpa only [bad] using hb.1) q hq
    · exact goods_subs l ts (by simpa only [bad] using hb.2) q hq
end
theorem prt_good {x y : T} (hx : bad (T.subs 1 x) = false) (hy : bad (T.subs 1 y) = false) {t : T} (h : t ∈ prt x y) : bad (T.subs 1 t) = false := by
  simp only [prt, List.mem_append, List.mem_map] at h
  rcases h with ⟨q, hq, rfl⟩ | ⟨q, hq, rfl⟩
  · exact good_subs 1 x hx q hq
  · exact good_subs 1 y hy q hq

/-- The state: the solution so far, and the pairs that are left. -/
structure RI (x y : T) (s : Sb) (l : List (T × T)) (F : List T) : Prop where
  tri : Tri s
  eqv : ∀ θ : Int → T, x.sub θ = y.sub θ ↔ ES s θ ∧ EL l θ
  good : ∀ p ∈ l, bad (T.subs 1 p.1) = false ∧ bad (T.subs 1 p.2) = false
  part : ∀ p ∈ l, (∃ n ∈ prt x y, n.sub (ofS s) = p.1.sub (ofS s)) ∧ ∃ n ∈ prt x y, n.sub (ofS s) = p.2.sub (ofS s)
  bnds : ∀ z, 0 ≤ z → z ≤ 255 → bnd s z = true → (ofS s z).head < 0 ∨ ∃ n ∈ prt x y, ¬ n.head < 0 ∧ n.sub (ofS s) = ofS s z
  stk : Stk (prt x y) (ofS s) l F

theorem RI.start {x y : T} (hx : bad (T.subs 1 x) = false) (hy : bad (T.subs 1 y) = false) : RI x y [] [(x, y)] [] :=
  ⟨Tri.nil, fun θ => by simp [ES, EL], by simp [hx, hy], fun p hp => by
    obtain rfl : p = (x, y) := by simpa using hp
    exact ⟨⟨x, prt_left x y, rfl⟩, ⟨y, prt_right x y, rfl⟩⟩, by simp [bnd], .base (by simp)⟩

section
variable {x y : T} {s : Sb} {l : List (T × T)} {F : List T}

theorem var_range {t : T} (hg : bad (T.subs 1 t) = false) (hn : t.head < 0) : 0 ≤ -1 - t.head ∧ -1 - t.head ≤ 255 ∧ t = vt (-1 - t.head) := by
  have := good_head hg
  simp only [okB, if_pos hn, Bool.and_eq_true, decide_eq_true_iff] at this
  refine ⟨by omega, this.2, ?_⟩
  have ha := good_leaf hg hn
  rw [← T.eta t, ha, vt]
  simp only [T.head_node, T.node.injEq, and_true]
  omega

/-- A function part for each part that is put to a function. -/
theorem RI.fun_part (h : RI x y s l F) (hx : bad (T.subs 1 x) = false) (hy : bad (T.subs 1 y) = false) {n : T} (hn : n ∈ prt x y) (hf : ¬ (n.sub (ofS s)).head < 0) : ∃ n' ∈ prt x y, ¬ n'.head < 0 ∧ n'.sub (ofS s) = n.sub (ofS s) := by
  by_cases hv : n.head < 0
  · obtain ⟨r0, r1, e⟩ := var_range (prt_good hx hy hn) hv
    rw [T.sub_neg hv] at hf ⊢
    cases hb : bnd s (-1 - n.head)
    · rw [ofS_unbound hb, vt_head] at hf; omega
    · rcases h.bnds _ r0 r1 hb with h1 | ⟨n', h1, h2, h3⟩
      · exact absurd h1 hf
      · exact ⟨n', h1, h2, h3⟩
  · exact ⟨n, hn, hv, rfl⟩
theorem RI.org (h : RI x y s l F) (hx : bad (T.subs 1 x) = false) (hy : bad (T.subs 1 y) = false) : Org (prt x y) (ofS s) := fun t ht => by
  by_cases hv : t.head < 0
  · obtain ⟨r0, r1, e⟩ := var_range (prt_good hx hy ht) hv
    by_cases hf : (t.sub (ofS s)).head < 0
    · left
      have hg : bad (T.subs 1 (t.sub (ofS s))) = false := good_put _ (fun v a b => h.tri.good_of a b) t (prt_good hx hy ht)
      have := (var_range hg hf).2.2
      rw [this]; simp [vt, T.size, T.sizes]
    · right
      exact h.fun_part hx hy ht hf
  · exact .inr ⟨t, ht, hv, rfl⟩
theorem RI.small (h : RI x y s l F) (hx : bad (T.subs 1 x) = false) (hy : bad (T.subs 1 y) = false) (h60 : x.size + y.size ≤ 60) {n : T} (hn : n ∈ prt x y) : (n.sub (ofS s)).size ≤ 300000000000 := grow_bound h60 (h.org hx hy) hn

mutual
theorem size_le_sub (f : Int → T) : (t : T) → bad (T.subs 1 t) = false → t.size ≤ (t.sub f).size
  | .node h ts => by
    intro hg
    by_cases q : h < 0
    · have := good_leaf hg q
      simp only [T.args_node] at this
      subst this
      have := T.size_pos ((T.node h []).sub f)
      simp only [T.size, T.sizes]
      omega
    · rw [T.sub_pos (t := .node h ts) q]
      have := sizes_le_sub f ts (fun s hs => by obtain ⟨i, hi⟩ := List.getElem?_of_mem hs; exact good_arg (t := .node h ts) hg hi)
      simp only [T.size, T.args_node, T.head_node]
      omega
theorem sizes_le_sub (f : Int → T) : (ts : List T) → (∀ t ∈ ts, bad (T.subs 1 t) = false) → T.sizes ts ≤ T.sizes (ts.map (T.sub f))
  | [] => by simp [T.sizes]
  | t :: ts => by
    intro h
    have h1 := size_le_sub f t (h t (by simp))
    have h2 := sizes_le_sub f ts (fun s hs => h s (by simp [hs]))
    simp only [List.map_cons, T.sizes]
    omega
end

/-! ### The steps -/
variable {p : T × T}
theorem RI.head_good (h : RI x y s (p :: l) F) : bad (T.subs 1 (p.1.sub (ofS s))) = false ∧ bad (T.subs 1 (p.2.sub (ofS s))) = false := by
  have hg := h.good p (by simp)
  exact ⟨good_put _ (fun v a b => h.tri.good_of a b) _ hg.1, good_put _ (fun v a b => h.tri.good_of a b) _ hg.2⟩
theorem RI.head_eq (h : RI x y s (p :: l) F) {θ : Int → T} (hθ : ES s θ) : p.1.sub θ = p.2.sub θ ↔ (p.1.sub (ofS s)).sub θ = (p.2.sub (ofS s)).sub θ := by
  have hg := h.good p (by simp)
  rw [← h.tri.solve_put hθ hg.1, ← h.tri.solve_put hθ hg.2]
theorem el_cons {q : T × T} {θ : Int → T} : EL (q :: l) θ ↔ q.1.sub θ = q.2.sub θ ∧ EL l θ := by simp [EL]

/-- Both sides are the same: the pair goes. -/
theorem RI.same (h : RI x y s (p :: l) F) (he : p.1.sub (ofS s) = p.2.sub (ofS s)) : ∃ F', RI x y s l F' := by
  obtain ⟨F', hF, _⟩ := h.stk.pop rfl
  refine ⟨F', h.tri, fun θ => ?_, fun q hq => h.good q (by simp [hq]), fun q hq => h.part q (by simp [hq]), h.bnds, hF⟩
  rw [h.eqv θ, el_cons]
  constructor
  · rintro ⟨a, _, b⟩; exact ⟨a, b⟩
  · rintro ⟨a, b⟩; exact ⟨a, (h.head_eq a).2 (by rw [he]), b⟩

/-- No solution: the heads, or the numbers of arguments, differ. -/
theorem RI.clash (h : RI x y s (p :: l) F) (h1 : ¬ (p.1.sub (ofS s)).head < 0) (h2 : ¬ (p.2.sub (ofS s)).head < 0) (hne : (p.1.sub (ofS s)).head ≠ (p.2.sub (ofS s)).head ∨ (p.1.sub (ofS s)).args.length ≠ (p.2.sub (ofS s)).args.length) (θ : Int → T) : x.sub θ ≠ y.sub θ := fun e => by
  obtain ⟨a, b⟩ := (h.eqv θ).1 e
  have e2 := (h.head_eq a).1 (el_cons.1 b).1
  rw [T.sub_pos h1, T.sub_pos h2] at e2
  simp only [T.node.injEq] at e2
  rcases hne with hne | hne
  · exact hne e2.1
  · have := congrArg List.length e2.2
    simp at this
    exact hne this
/-- No solution: a variable within the other side. -/
theorem RI.occurs (h : RI x y s (p :: l) F) {a b : T} (hab : a = p.1.sub (ofS s) ∧ b = p.2.sub (ofS s) ∨ a = p.2.sub (ofS s) ∧ b = p.1.sub (ofS s)) (ha : a.head < 0) (hne : a ≠ b) (hin : a.head ∈ b.heads) (θ : Int → T) : x.sub θ ≠ y.sub θ := fun e => by
  obtain ⟨q, r⟩ := (h.eqv θ).1 e
  have e2 := (h.head_eq q).1 (el_cons.1 r).1
  have hg := h.head_good
  have hgab : bad (T.subs 1 a) = false ∧ bad (T.subs 1 b) = false := by
    rcases hab with ⟨rfl, rfl⟩ | ⟨rfl, rfl⟩
    · exact hg
    · exact ⟨hg.2, hg.1⟩
  have e3 : a.sub θ = b.sub θ := by
    rcases hab with ⟨rfl, rfl⟩ | ⟨rfl, rfl⟩
    · exact e2
    · exact e2.symm
  obtain ⟨r0, r1, ev⟩ := var_range hgab.1 ha
  have hah : -1 - (-1 - a.head) = a.head := by omega
  refine var_none hgab.2 r0 (by rw [hah]; exact hin) (fun eh => ?_) θ (by rw [← ev]; exact e3)
  have hb : b.head < 0 := by omega
  obtain ⟨_, _, ev2⟩ := var_range hgab.2 hb
  exact hne (by rw [ev, ev2, eh, hah])

/-- Arguments in place of terms. -/
theorem RI.args (h : RI x y s (p :: l) F) (hx : bad (T.subs 1 x) = false) (hy : bad (T.subs 1 y) = false) (h1 : ¬ (p.1.sub (ofS s)).head < 0) (h2 : ¬ (p.2.sub (ofS s)).head < 0) (hh : (p.1.sub (ofS s)).head = (p.2.sub (ofS s)).head) (hl : (p.1.sub (ofS s)).args.length = (p.2.sub (ofS s)).args.length) :
    ∃ F', RI x y s ((p.1.sub (ofS s)).args.zip (p.2.sub (ofS s)).args ++ l) F' := by
  obtain ⟨F', hF, hSS⟩ := h.stk.pop rfl
  obtain ⟨hg1, hg2⟩ := h.head_good
  obtain ⟨⟨n1, hn1, en1⟩, n2, hn2, en2⟩ := h.part p (by simp)
  obtain ⟨m1, hm1, hf1, em1⟩ := h.fun_part hx hy hn1 (by rw [en1]; exact h1)
  obtain ⟨m2, hm2, hf2, em2⟩ := h.fun_part hx hy hn2 (by rw [en2]; exact h2)
  rw [en1] at em1
  rw [en2] at em2
  have hpf : ∀ {t : T}, bad (T.subs 1 t) = false → ∀ g ∈ (t.sub (ofS s)).heads, g < 0 → bnd s (-1 - g) = false := fun {t} hg g hm hn => h.tri.put_free hg hm hn
  have hgd := h.good p (by simp)
  have hself : ∀ {a b : T}, bad (T.subs 1 a) = false → b ∈ (a.sub (ofS s)).args → bad (T.subs 1 (a.sub (ofS s))) = false → b.sub (ofS s) = b ∧ bad (T.subs 1 b) = false := fun {a b} hga hb hgp => by
    obtain ⟨i, hi⟩ := List.getElem?_of_mem hb
    have hgb := good_arg hgp hi
    refine ⟨sub_self _ _ b (Nat.le_refl _) hgb (fun g hm hn => ofS_unbound (hpf hga g ?_ hn)), hgb⟩
    rw [T.heads_eq, List.mem_cons]
    right
    simp only [List.mem_flatten, List.mem_map]
    exact ⟨_, ⟨b, hb, rfl⟩, hm⟩
  have hzip : ∀ q ∈ (p.1.sub (ofS s)).args.zip (p.2.sub (ofS s)).args, q.1 ∈ (p.1.sub (ofS s)).args ∧ q.2 ∈ (p.2.sub (ofS s)).args := fun q hq => ⟨(List.of_mem_zip hq).1, (List.of_mem_zip hq).2⟩
  have hnarg : ∀ {m b t : T}, m ∈ prt x y → ¬ m.head < 0 → m.sub (ofS s) = t → b ∈ t.args → ∃ n ∈ prt x y, n.sub (ofS s) = b := fun {m b t} hm hf e hb => by
    rw [← e, T.sub_pos hf, T.args_node, List.mem_map] at hb
    obtain ⟨n, hn, e2⟩ := hb
    exact ⟨n, prt_arg hm hn, e2⟩
  refine ⟨m1 :: F', h.tri, fun θ => ?_, fun q hq => ?_, fun q hq => ?_, h.bnds, .frame hF hm1 ?_ (fun q hq => ?_) (fun n hn => ?_)⟩
  · rw [h.eqv θ, el_cons]
    have hz : ∀ q : ES s θ, (p.1.sub θ = p.2.sub θ ↔ EL ((p.1.sub (ofS s)).args.zip (p.2.sub (ofS s)).args) θ) := fun q => by
      rw [h.head_eq q, T.sub_pos h1, T.sub_pos h2]
      simp only [T.node.injEq, hh, true_and]
      have hlist : ∀ (as_ bs : List T), as_.length = bs.length → (as_.map (T.sub θ) = bs.map (T.sub θ) ↔ EL (as_.zip bs) θ) := by
        intro as_
        induction as_ with
        | nil => intro bs hb; obtain rfl : bs = [] := List.eq_nil_of_length_eq_zero hb.symm; simp [EL]
        | cons a as_ ih =>
          intro bs hb
          rcases bs with _ | ⟨b, bs⟩
          · simp at hb
          · rw [List.zip_cons_cons, el_cons, List.map_cons, List.map_cons, List.cons.injEq, ih bs (by simpa using hb)]
      exact hlist _ _ hl
    constructor
    · rintro ⟨a, b, c⟩
      refine ⟨a, fun q hq => ?_⟩
      rcases List.mem_append.1 hq with hq | hq
      · exact (hz a).1 b q hq
      · exact c q hq
    · rintro ⟨a, b⟩
      exact ⟨a, (hz a).2 (fun q hq => b q (List.mem_append_left _ hq)), fun q hq => b q (List.mem_append_right _ hq)⟩
  · rcases List.mem_append.1 hq with hq | hq
    · obtain ⟨a, b⟩ := hzip q hq
      exact ⟨(hself hgd.1 a hg1).2, (hself hgd.2 b hg2).2⟩
    · exact h.good q (by simp [hq])
  · rcases List.mem_append.1 hq with hq | hq
    · obtain ⟨a, b⟩ := hzip q hq
      rw [(hself hgd.1 a hg1).1, (hself hgd.2 b hg2).1]
      exact ⟨hnarg hm1 hf1 em1 a, hnarg hm2 hf2 em2 b⟩
    · exact h.part q (by simp [hq])
  · rw [List.length_zip]
    have := good_head hg1
    have h8 : (p.1.sub (ofS s)).args.length ≤ 8 := by
      simp only [okB, if_neg h1, Bool.and_eq_true, decide_eq_true_iff] at this
      exact this.2
    omega
  · obtain ⟨a, b⟩ := hzip q hq
    rw [(hself hgd.1 a hg1).1, em1]
    exact .arg h1 a
  · rw [em1]; exact hSS n hn

/-- A variable is bound. -/
theorem RI.bind (h : RI x y s (p :: l) F) (hx : bad (T.subs 1 x) = false) (hy : bad (T.subs 1 y) = false) {a b : T} (hab : a = p.1.sub (ofS s) ∧ b = p.2.sub (ofS s) ∨ a = p.2.sub (ofS s) ∧ b = p.1.sub (ofS s)) (ha : a.head < 0) (hin : a.head ∉ b.heads) (ho : b.head < 0 → a.head < b.head) :
    ∃ F', RI x y (thenL s [(-1 - a.head, b)] allV) l F' ∧ (∀ z, bnd (thenL s [(-1 - a.head, b)] allV) z = (bnd s z || decide (z = -1 - a.head))) ∧ bnd s (-1 - a.head) = false ∧ 0 ≤ -1 - a.head ∧ -1 - a.head ≤ 255 := by
  have hg := h.head_good
  have hgd := h.good p (by simp)
  have hgab : bad (T.subs 1 a) = false ∧ bad (T.subs 1 b) = false := by
    rcases hab with ⟨rfl, rfl⟩ | ⟨rfl, rfl⟩
    · exact hg
    · exact ⟨hg.2, hg.1⟩
  obtain ⟨r0, r1, ev⟩ := var_range hgab.1 ha
  have hah : -1 - (-1 - a.head) = a.head := by omega
  have hfree : ∀ {c : T}, (c = a ∨ c = b) → ∀ g ∈ c.heads, g < 0 → bnd s (-1 - g) = false := fun {c} hc g hm hn => by
    have : c = p.1.sub (ofS s) ∨ c = p.2.sub (ofS s) := by
      rcases hab with ⟨rfl, rfl⟩ | ⟨rfl, rfl⟩ <;> rcases hc with rfl | rfl <;> simp
    rcases this with rfl | rfl
    · exact h.tri.put_free hgd.1 hm hn
    · exact h.tri.put_free hgd.2 hm hn
  have hv : bnd s (-1 - a.head) = false := hfree (.inl rfl) a.head (by rw [T.heads_eq]; simp) ha
  obtain ⟨t1, t2, t3, t4⟩ := bind_tri h.tri r0 r1 hv hgab.2 (fun g hm hn => hfree (.inr rfl) g hm hn) (by rw [hah]; exact hin) (fun hb => by have := ho hb; omega)
  generalize hs' : thenL s [(-1 - a.head, b)] allV = s' at t1 t2 t3 t4 ⊢
  have hu : ∀ z, ofS [(-1 - a.head, b)] z = if -1 - a.head = z then b else vt z := fun z => rfl
  have hsub : ∀ {t : T}, bad (T.subs 1 t) = false → t.sub (ofS s') = (t.sub (ofS s)).sub (ofS [(-1 - a.head, b)]) := fun {t} hgt => by
    rw [T.sub_sub]
    exact sub_congr _ t (Nat.le_refl _) hgt (fun v c0 c1 => t3 v c0 c1)
  have hbself : b.sub (ofS [(-1 - a.head, b)]) = b := sub_self _ _ b (Nat.le_refl _) hgab.2 (fun g hm hn => by
    rw [hu, if_neg (fun e => hin (by have : g = a.head := by omega
                                     rw [← this]; exact hm))])
  have hbn : ∃ n ∈ prt x y, n.sub (ofS s) = b := by
    obtain ⟨p1, p2⟩ := h.part p (by simp)
    rcases hab with ⟨rfl, rfl⟩ | ⟨rfl, rfl⟩
    · exact p2
    · exact p1
  have hbb : ofS s' (-1 - a.head) = b := by rw [t3 _ r0 r1, ofS_unbound hv, vt_sub r0, hu, if_pos rfl]
  have hbfun : b.head < 0 ∨ ∃ n ∈ prt x y, ¬ n.head < 0 ∧ n.sub (ofS s') = b := by
    by_cases hb : b.head < 0
    · exact .inl hb
    · right
      obtain ⟨n, hn, en⟩ := hbn
      obtain ⟨n', hn', hf, en'⟩ := h.fun_part hx hy hn (by rw [en]; exact hb)
      exact ⟨n', hn', hf, by rw [hsub (prt_good hx hy hn'), en', en, hbself]⟩
  obtain ⟨F', hF, _⟩ := h.stk.pop rfl
  refine ⟨F', ⟨t1, fun θ => ?_, fun q hq => h.good q (by simp [hq]), fun q hq => ?_, fun z z0 z1 hz => ?_, hF.more (fun t ht => hsub (prt_good hx hy ht)) (fun q hq => hsub (h.good q (by simp [hq])).1)⟩, t4, hv, r0, r1⟩
  · rw [h.eqv θ, el_cons, t2]
    have hz : ∀ q : ES s θ, (p.1.sub θ = p.2.sub θ ↔ θ (-1 - a.head) = b.sub θ) := fun q => by
      rw [h.head_eq q]
      have e1 : a.sub θ = θ (-1 - a.head) := T.sub_neg ha
      rcases hab with ⟨e2, e3⟩ | ⟨e2, e3⟩
      · rw [← e2, ← e3, e1]
      · rw [← e2, ← e3, e1]; exact eq_comm
    constructor
    · rintro ⟨q, r, t⟩; exact ⟨⟨q, (hz q).1 r⟩, t⟩
    · rintro ⟨⟨q, r⟩, t⟩; exact ⟨q, (hz q).2 r, t⟩
  · have hgq := h.good q (by simp [hq])
    obtain ⟨⟨n1, hn1, e1⟩, n2, hn2, e2⟩ := h.part q (by simp [hq])
    exact ⟨⟨n1, hn1, by rw [hsub (prt_good hx hy hn1), hsub hgq.1, e1]⟩, n2, hn2, by rw [hsub (prt_good hx hy hn2), hsub hgq.2, e2]⟩
  · rw [t4, Bool.or_eq_true, decide_eq_true_iff] at hz
    rcases hz with hz | rfl
    · rcases h.bnds z z0 z1 hz with hv1 | ⟨n, hn, hf, en⟩
      · rw [t3 z z0 z1]
        obtain ⟨w0, w1, ew⟩ := var_range (h.tri.good_of z0 z1) hv1
        rw [ew, vt_sub w0, hu]
        split
        · exact hbfun
        · left; rw [vt_head]; omega
      · right
        exact ⟨n, hn, hf, by rw [hsub (prt_good hx hy hn), en, t3 z z0 z1]⟩
    · rw [hbb]; exact hbfun

/-- Nothing is left: the solution is the most general one. -/
theorem RI.done (h : RI x y s [] F) : IsMgu (fun θ => x.sub θ = y.sub θ) s := by
  have he : ∀ θ : Int → T, x.sub θ = y.sub θ ↔ ES s θ := fun θ => by rw [h.eqv θ]; simp [EL]
  have ht := h.tri
  exact ⟨ht.rise, ht.low, ht.good, ht.free, ht.orient, (he _).2 ht.unif, fun θ hθ => ht.most θ ((he θ).1 hθ)⟩

end

/-! ### A number that falls -/
def freeN (s : Sb) : List Int → Nat
  | [] => 0
  | v :: vs => (if bnd s v then 0 else 1) + freeN s vs
def lsum (σ : Int → T) : List (T × T) → Nat
  | [] => 0
  | p :: l => (p.1.sub σ).size + lsum σ l
def rmeas (s : Sb) (l : List (T × T)) : Nat := freeN s allV * 1000000000000000 + lsum (ofS s) l
theorem freeN_le {s s' : Sb} (h : ∀ z, bnd s z = true → bnd s' z = true) : ∀ vs, freeN s' vs ≤ freeN s vs
  | [] => Nat.le_refl _
  | v :: vs => by
    have := freeN_le h vs
    rw [freeN, freeN]
    cases hb : bnd s v
    · simp only [Bool.false_eq_true, if_false]; split <;> omega
    · rw [h v hb]; simpa using this
theorem freeN_lt {s s' : Sb} (h : ∀ z, bnd s z = true → bnd s' z = true) {z : Int} (h1 : bnd s z = false) (h2 : bnd s' z = true) : ∀ vs, z ∈ vs → freeN s' vs < freeN s vs
  | v :: vs, hm => by
    have hle := freeN_le h vs
    rw [freeN, freeN]
    rcases List.mem_cons.1 hm with rfl | hm
    · rw [h1, h2]; simp; omega
    · have := freeN_lt h h1 h2 vs hm
      cases hb : bnd s v
      · simp only [Bool.false_eq_true, if_false]; split <;> omega
      · rw [h v hb]; simpa using this
theorem lsum_le {σ : Int → T} {m : Nat} : ∀ {l : List (T × T)}, (∀ p ∈ l, (p.1.sub σ).size ≤ m) → lsum σ l ≤ l.length * m
  | [], _ => by simp [lsum]
  | p :: l, h => by
    have h1 := h p (by simp)
    have h2 := lsum_le (l := l) (fun q hq => h q (by simp [hq]))
    rw [lsum, List.length_cons, Nat.succ_mul]
    omega
theorem RI.lsum_small {x y : T} {s : Sb} {l : List (T × T)} {F : List T} (h : RI x y s l F) (hx : bad (T.subs 1 x) = false) (hy : bad (T.subs 1 y) = false) (h60 : x.size + y.size ≤ 60) : lsum (ofS s) l < 1000000000000000 ∧ l.length ≤ 481 := by
  have hlen := h.stk.short h60
  have := lsum_le (σ := ofS s) (m := 300000000000) (l := l) (fun p hp => by
    obtain ⟨⟨n, hn, e⟩, _⟩ := h.part p hp
    rw [← e]; exact h.small hx hy h60 hn)
  have h2 : l.length * 300000000000 ≤ 481 * 300000000000 := Nat.mul_le_mul_right _ hlen
  exact ⟨by omega, hlen⟩

end Go.Proofs.Ytcbjnfdhghhgeaa
