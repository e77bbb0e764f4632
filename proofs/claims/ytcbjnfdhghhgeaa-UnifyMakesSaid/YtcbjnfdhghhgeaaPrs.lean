/- Lists of pairs of terms in memory: rows of one's own, and what they become when pairs are appended. -/
import Derived.Test.YtcbjnfdhghhgeaaBv
import Derived.Test.YtcbjnfdhghhgeaaQ1h
namespace Go.Proofs.Ytcbjnfdhghhgeaa
set_option linter.unusedVariables false
set_option linter.unusedSimpArgs false
open Go.RowKit

theorem infoPrs : (Try.prog.info? 123).map (fun i => (i.zero, i.size, i.bytes)) = some (some (.agg #[.int .i64 0, .slice none 0 0, .int .i64 0, .slice none 0 0]), 4, 64) := by kernel_rfl

abbrev Prs := List (T × T)
/-- The cells xs are those of the pairs l, one behind the other. -/
def PVals (ok : Nat → Prop) (w : World) : Prs → List Value → Prop
  | [], [] => True
  | (t, u) :: l, h :: v :: h' :: v' :: xs => ((Lit.int .i64 t.head).wf = true ∧ h = .int .i64 t.head ∧ (∃ a c, v = .slice a t.args.length c ∧ IsArgsp ok w t.args a c)) ∧ ((Lit.int .i64 u.head).wf = true ∧ h' = .int .i64 u.head ∧ (∃ a c, v' = .slice a u.args.length c ∧ IsArgsp ok w u.args a c)) ∧ PVals ok w l xs
  | _, _ => False
theorem PVals.keep {ok ok' : Nat → Prop} {w w' : World} (h : ∀ b, ok b → w'.heap[b]? = w.heap[b]?) (hm : ∀ b, ok b → ok' b) : ∀ {l : Prs} {xs : List Value}, PVals ok w l xs → PVals ok' w' l xs
  | [], [], _ => trivial
  | (_, _) :: _, _ :: _ :: _ :: _ :: _, ⟨⟨h1, h2, a, c, h3, h4⟩, ⟨h5, h6, a', c', h7, h8⟩, h9⟩ => ⟨⟨h1, h2, a, c, h3, h4.keep h hm⟩, ⟨h5, h6, a', c', h7, h8.keep h hm⟩, PVals.keep h hm h9⟩
  | [], _ :: _, h => h.elim
  | (_, _) :: _, [], h => h.elim
  | (_, _) :: _, [_], h => h.elim
  | (_, _) :: _, [_, _], h => h.elim
  | (_, _) :: _, [_, _, _], h => h.elim
theorem PVals.append {ok : Nat → Prop} {w : World} : ∀ {l : Prs} {xs : List Value} {m : Prs} {ys : List Value}, PVals ok w l xs → PVals ok w m ys → PVals ok w (l ++ m) (xs ++ ys)
  | [], [], _, _, _, h => h
  | (_, _) :: _, _ :: _ :: _ :: _ :: _, _, _, ⟨p1, p2, p3⟩, h => ⟨p1, p2, PVals.append p3 h⟩
  | [], _ :: _, _, _, h, _ => h.elim
  | (_, _) :: _, [], _, _, h, _ => h.elim
  | (_, _) :: _, [_], _, _, h, _ => h.elim
  | (_, _) :: _, [_, _], _, _, h, _ => h.elim
  | (_, _) :: _, [_, _, _], _, _, h, _ => h.elim
theorem PVals.one {ok : Nat → Prop} {w : World} {t u : T} {a a' : Option Addr} {c c' : Nat} (h0 : (Lit.int .i64 t.head).wf = true) (h1 : (Lit.int .i64 u.head).wf = true) (h2 : IsArgsp ok w t.args a c) (h3 : IsArgsp ok w u.args a' c') :
    PVals ok w [(t, u)] [.int .i64 t.head, .slice a t.args.length c, .int .i64 u.head, .slice a' u.args.length c'] :=
  ⟨⟨h0, rfl, a, c, rfl, h2⟩, ⟨h1, rfl, a', c', rfl, h3⟩, trivial⟩
theorem PVals.length {ok : Nat → Prop} {w : World} : ∀ {l : Prs} {xs : List Value}, PVals ok w l xs → xs.length = l.length * 4
  | [], [], _ => rfl
  | (_, _) :: _, _ :: _ :: _ :: _ :: _, ⟨_, _, p⟩ => by simp [p.length]; omega
  | [], _ :: _, h => h.elim
  | (_, _) :: _, [], h => h.elim
  | (_, _) :: _, [_], h => h.elim
  | (_, _) :: _, [_, _], h => h.elim
  | (_, _) :: _, [_, _, _], h => h.elim
theorem PVals.get {ok : Nat → Prop} {w : World} : ∀ {l : Prs} {xs : List Value} {j : Nat} {t u : T}, PVals ok w l xs → l[j]? = some (t, u) →
    ((Lit.int .i64 t.head).wf = true ∧ xs[j * 4]? = some (.int .i64 t.head) ∧ ∃ a c, xs[j * 4 + 1]? = some (.slice a t.args.length c) ∧ IsArgsp ok w t.args a c) ∧
    ((Lit.int .i64 u.head).wf = true ∧ xs[j * 4 + 2]? = some (.int .i64 u.head) ∧ ∃ a c, xs[j * 4 + 3]? = some (.slice a u.args.length c) ∧ IsArgsp ok w u.args a c)
  | [], [], j, t, u, _, hj => by simp at hj
  | (y, z) :: s, h :: v :: h' :: v' :: xs, 0, t, u, ⟨⟨h1, h2, a, c, h3, h4⟩, ⟨h5, h6, a', c', h7, h8⟩, h9⟩, hj => by
    simp at hj
    obtain ⟨rfl, rfl⟩ := hj
    subst h2 h3 h6 h7
    exact ⟨⟨h1, rfl, a, c, rfl, h4⟩, ⟨h5, rfl, a', c', rfl, h8⟩⟩
  | (y, z) :: s, h :: v :: h' :: v' :: xs, j + 1, t, u, ⟨_, _, h9⟩, hj => by
    have := PVals.get h9 (j := j) (t := t) (u := u) (by simpa using hj)
    rw [show (j + 1) * 4 = j * 4 + 4 from by omega]
    exact this
  | [], _ :: _, _, _, _, h, _ => h.elim
  | (_, _) :: _, [], _, _, _, h, _ => h.elim
  | (_, _) :: _, [_], _, _, _, h, _ => h.elim
  | (_, _) :: _, [_, _], _, _, _, h, _ => h.elim
  | (_, _) :: _, [_, _, _], _, _, _, h, _ => h.elim

/-- A pair at an address; a list of pairs. -/
def IsP (n₀ : Nat) (W : World) (x : T × T) (b o : Nat) : Prop := IsT n₀ W x.1 b o ∧ IsT n₀ W x.2 b (o + 2)
def IsPs (n₀ : Nat) (W : World) (l : Prs) (a : Option Addr) (c : Nat) : Prop :=
  l.length ≤ c ∧ c ≤ maxLen ∧ (l = [] ∨ ∃ b o, a = some ⟨b, o, none⟩ ∧ b < n₀ ∧ ∀ (j : Nat) (x : T × T), l[j]? = some x → IsP n₀ W x b (o + j * 4))
theorem IsPs.below {n₀ : Nat} {w w' : World} {l : Prs} {a : Option Addr} {c : Nat} (h : IsPs n₀ w l a c) (hb : Below n₀ w w') : IsPs n₀ w' l a c := by
  obtain ⟨h1, h2, h3⟩ := h
  refine ⟨h1, h2, ?_⟩
  rcases h3 with h3 | ⟨b, o, h4, h5, h6⟩
  · exact .inl h3
  · exact .inr ⟨b, o, h4, h5, fun j x hx => ⟨(h6 j x hx).1.below hb h5, (h6 j x hx).2.below hb h5⟩⟩
theorem IsPs.mono {n₀ n₁ : Nat} {w : World} {l : Prs} {a : Option Addr} {c : Nat} (h : IsPs n₀ w l a c) (hn : n₀ ≤ n₁) : IsPs n₁ w l a c := by
  obtain ⟨h1, h2, h3⟩ := h
  refine ⟨h1, h2, ?_⟩
  rcases h3 with h3 | ⟨b, o, h4, h5, h6⟩
  · exact .inl h3
  · exact .inr ⟨b, o, h4, by omega, fun j x hx => ⟨(h6 j x hx).1.mono hn, (h6 j x hx).2.mono hn⟩⟩
theorem IsPs.nil (n₀ : Nat) (w : World) (a : Option Addr) {c : Nat} (hc : c ≤ maxLen) : IsPs n₀ w [] a c := ⟨by simp, hc, .inl rfl⟩
/-- The first pair, and what is left behind it. -/
theorem IsPs.cons {n₀ : Nat} {w : World} {t u : T} {l : Prs} {a : Option Addr} {c : Nat} (h : IsPs n₀ w ((t, u) :: l) a c) :
    ∃ (b o : Nat) (a1 a2 : Option Addr) (c1 c2 : Nat), a = some ⟨b, o, none⟩ ∧ b < n₀ ∧ (Lit.int .i64 t.head).wf = true ∧ (Lit.int .i64 u.head).wf = true ∧ w.cell? ⟨b, o, none⟩ = some (.int .i64 t.head) ∧ w.cell? ⟨b, o + 1, none⟩ = some (.slice a1 t.args.length c1) ∧
      w.cell? ⟨b, o + 2, none⟩ = some (.int .i64 u.head) ∧ w.cell? ⟨b, o + 3, none⟩ = some (.slice a2 u.args.length c2) ∧ IsArgs n₀ w t.args a1 c1 ∧ IsArgs n₀ w u.args a2 c2 ∧
      IsPs n₀ w l (some ⟨b, o + 4, none⟩) (c - 1) ∧ (l = [] → ∀ a', IsPs n₀ w l a' (c - 1)) := by
  obtain ⟨h1, h2, h3⟩ := h
  rcases h3 with h3 | ⟨b, o, rfl, h4, h5⟩
  · cases h3
  · obtain ⟨p1, p2⟩ := h5 0 (t, u) rfl
    obtain ⟨q0, q1, a1, c1, q2, q3⟩ := isT_iff.1 p1
    obtain ⟨r0, r1, a2, c2, r2, r3⟩ := isT_iff.1 p2
    simp only [Nat.zero_mul, Nat.add_zero] at q1 q2 r1 r2
    simp only [List.length_cons] at h1
    refine ⟨b, o, a1, a2, c1, c2, rfl, h4, q0, r0, q1, q2, r1, r2, q3, r3, ⟨by omega, by omega, .inr ⟨b, o + 4, rfl, h4, fun j x hx => ?_⟩⟩, fun h a' => by subst h; exact IsPs.nil _ _ _ (by omega)⟩
    have := h5 (j + 1) x (by simpa using hx)
    rwa [show o + (j + 1) * 4 = o + 4 + j * 4 from by omega] at this

/-- A row of one's own, whose cells are pairs, is a list of pairs. -/
theorem isPs_of_owns {ok : Nat → Prop} {w : World} {base n : Nat} {v : Value} {l : Prs} {xs : List Value} (hown : w.ownsRow base 123 4 v l.length xs) (hr : PVals ok w l xs) (hm : ∀ b, ok b → b < n) (hg : ∀ g, v.ownBlock = some g → g < n) : ∃ a c, v = .slice a l.length c ∧ IsPs n w l a c := by
  have hcells := fun g hg => hown.cells (g := g) hg
  rcases hown.2 with ⟨rfl, h0⟩ | ⟨g, cap, cur, rfl, hb, hh, hn, hc, hs, _⟩
  · exact ⟨none, 0, by rw [h0], by omega, by simp [maxLen], .inl (List.eq_nil_of_length_eq_zero h0)⟩
  · refine ⟨_, cap, rfl, hn, hc, .inr ⟨g, 0, rfl, hg g rfl, fun j x hx => ?_⟩⟩
    obtain ⟨t, u⟩ := x
    obtain ⟨⟨h1, h2, a, c, h3, h4⟩, ⟨h5, h6, a', c', h7, h8⟩⟩ := hr.get hx
    have e1 := hcells g rfl _ _ h2
    have e2 := hcells g rfl _ _ h3
    have e3 := hcells g rfl _ _ h6
    have e4 := hcells g rfl _ _ h7
    rw [addr_add] at e1 e2 e3 e4
    exact ⟨isT_iff.2 ⟨h1, e1, a, c, by rw [show 0 + j * 4 + 1 = 0 + (j * 4 + 1) from by omega]; exact e2, h4.toArgs hm⟩, isT_iff.2 ⟨h5, by rw [show 0 + j * 4 + 2 = 0 + (j * 4 + 2) from by omega]; exact e3, a', c', by rw [show 0 + j * 4 + 2 + 1 = 0 + (j * 4 + 3) from by omega]; exact e4, h8.toArgs hm⟩⟩

/-- The cells of a list of pairs in memory. -/
theorem pvals_of {n₀ : Nat} {w : World} {b : Nat} : ∀ (l : Prs) (o : Nat), (∀ (j : Nat) (x : T × T), l[j]? = some x → IsP n₀ w x b (o + j * 4)) →
    ∃ xs, PVals (· < n₀) w l xs ∧ ∀ (j : Nat) (v : Value), xs[j]? = some v → w.cell? ⟨b, o + j, none⟩ = some v ∧ v.oneCell' = true
  | [], o, _ => ⟨[], trivial, by simp⟩
  | (t, u) :: l, o, h => by
    obtain ⟨xs, h1, h2⟩ := pvals_of l (o + 4) (fun j y hy => by
      have := h (j + 1) y (by simpa using hy)
      rw [show o + 4 + j * 4 = o + (j + 1) * 4 from by omega]
      exact this)
    obtain ⟨p1, p2⟩ := h 0 (t, u) rfl
    obtain ⟨q0, q1, a, c, q2, q3⟩ := isT_iff.1 p1
    obtain ⟨r0, r1, a', c', r2, r3⟩ := isT_iff.1 p2
    simp only [Nat.zero_mul, Nat.add_zero] at q1 q2 r1 r2
    refine ⟨.int .i64 t.head :: .slice a t.args.length c :: .int .i64 u.head :: .slice a' u.args.length c' :: xs, ⟨⟨q0, rfl, a, c, rfl, isArgsp_lt.2 q3⟩, ⟨r0, rfl, a', c', rfl, isArgsp_lt.2 r3⟩, h1⟩, fun j v hj => ?_⟩
    match j, hj with
    | 0, hj => simp at hj; subst hj; exact ⟨q1, rfl⟩
    | 1, hj => simp at hj; subst hj; exact ⟨q2, rfl⟩
    | 2, hj => simp at hj; subst hj; exact ⟨r1, rfl⟩
    | 3, hj => simp at hj; subst hj; exact ⟨r2, rfl⟩
    | j + 4, hj => rw [show o + (j + 4) = o + 4 + j from by omega]; exact h2 j v (by simpa using hj)

/-- append(v, l...), where v is a row of pairs of one's own. -/
theorem wpList_append_ps {w : World} {ops : Array Oper} {rest : List Oper} {o : Oper} {a : Act} {Q : Exit → Act → World → Prop} (hgd : o.guard = none) (s x : Operand)
    (ho : o.op = .call { callee := .builtin .append, args := #[s, x], argTypes := #[121, 121] }) (base : Nat) (v : Value) (n : Nat) (xs : List Value) (hs : a.eval s = v) (hown : w.ownsRow base 123 4 v n xs)
    (zs : Prs) (a' : Option Addr) (c' : Nat) (n₀ : Nat) (hx : a.eval x = .slice a' zs.length c') (hI : IsPs n₀ w zs a' c') (hl : n + zs.length ≤ 1000000000000) (hbase : base ≤ w.heap.size)
    (h : ∀ v' w' ys, w'.ownsRow base 123 4 v' (n + zs.length) (xs ++ ys) → PVals (· < n₀) w zs ys → w.grownBy w' v.ownBlock → wpList Try.prog ops Q rest (a.put o.dst v') w') : wpList Try.prog ops Q (o :: rest) a w := by
  obtain ⟨i0, hi, hz0, hz1, hz2⟩ := info_parts infoPrs
  cases a' with
  | none =>
    have h0 : zs = [] := by rcases hI.2.2 with h | ⟨_, _, h, _⟩; exact h; cases h
    subst h0
    refine wpList_append_own_nil hgd s x 121 ho base 123 i0 4 c' Try.underlying121 hi v n xs hs hown hx ?_
    exact h v w [] (by simpa using hown) trivial ⟨rfl, rfl, rfl, Nat.le_refl _, fun _ _ _ => rfl⟩
  | some ad =>
    rcases hI.2.2 with rfl | ⟨b, o', e, _, h6⟩
    · refine wpList_append_own w hgd s x 121 ho base 123 i0 _ 4 64 Try.underlying121 hi hz0 hz1 hz2 rfl (by decide) v n xs hs hown ad 0 c' [] hx (by simp) (by simp) (by simp) (by unfold maxLen; simp at hl; omega) (by simp at hl; omega) hbase (fun v' w' h1 h2 _ => h v' w' [] (by simpa using h1) trivial h2)
    · cases e
      obtain ⟨ys, hy1, hy2⟩ := pvals_of zs o' h6
      refine wpList_append_own w hgd s x 121 ho base 123 i0 _ 4 64 Try.underlying121 hi hz0 hz1 hz2 rfl (by decide) v n xs hs hown _ zs.length c' ys hx hy1.length (fun j u hj => ?_) (fun u hu => ?_) (by unfold maxLen; omega) (by omega) hbase (fun v' w' h1 h2 _ => h v' w' ys h1 hy1 h2)
      · rw [addr_add]; exact (hy2 j u hj).1
      · obtain ⟨j, hj⟩ := List.getElem?_of_mem hu
        exact (hy2 j u hj).2

end Go.Proofs.Ytcbjnfdhghhgeaa
