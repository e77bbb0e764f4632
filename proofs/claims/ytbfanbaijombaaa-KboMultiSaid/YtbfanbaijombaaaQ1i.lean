/- Q1i: joined of Sb, St0. -/
import Derived.Test.YtbfanbaijombaaaQ1b
import Derived.Test.YtbfanbaijombaaaQ1h
import Derived.Test.YtbfanbaijombaaaQ1c
import Derived.Test.YtbfanbaijombaaaQ1d
/- Substitutions as lists, what they put for variables, and what it means that one lies in memory. -/
namespace Go.Proofs.Ytbfanbaijombaaa
set_option linter.unusedVariables false
set_option linter.unusedSimpArgs false
open Go.RowKit

abbrev Sb := List (Int × T)
def vt (v : Int) : T := .node (-1 - v) []
def ofS : Sb → Int → T
  | [], v => vt v
  | (x, t) :: s, v => if x = v then t else ofS s v
mutual
def T.sub (f : Int → T) : T → T
  | .node h ts => if h < 0 then f (-1 - h) else .node h (T.subl f ts)
def T.subl (f : Int → T) : List T → List T
  | [] => []
  | t :: ts => t.sub f :: T.subl f ts
end
theorem T.subl_map (f : Int → T) (ts : List T) : T.subl f ts = ts.map (T.sub f) := by
  induction ts with
  | nil => rfl
  | cons t ts ih => simp [T.subl, ih]
theorem T.sub_eq (f : Int → T) (t : T) : t.sub f = if t.head < 0 then f (-1 - t.head) else .node t.head (t.args.map (T.sub f)) := by
  cases t; rw [T.sub, T.subl_map]; rfl
theorem T.sub_neg {f : Int → T} {t : T} (h : t.head < 0) : t.sub f = f (-1 - t.head) := by rw [T.sub_eq, if_pos h]
theorem T.sub_pos {f : Int → T} {t : T} (h : ¬ t.head < 0) : t.sub f = .node t.head (t.args.map (T.sub f)) := by rw [T.sub_eq, if_neg h]

/-- Is a list of bindings right, from the variable l on? -/
def rightS (l : Int) : Sb → Bool
  | [] => true
  | (x, t) :: s => (decide (l ≤ x) && decide (x ≤ 255) && decide (t.check = 0) && decide (t.head ≠ -1 - x)) && rightS (x + 1) s

/-! ### A list of bindings in memory -/
def IsB (n₀ : Nat) (W : World) (x : Int × T) (b o : Nat) : Prop := (Lit.int .i64 x.1).wf = true ∧ W.cell? ⟨b, o, none⟩ = some (.int .i64 x.1) ∧ IsT n₀ W x.2 b (o + 1)
def IsBs (n₀ : Nat) (W : World) (s : Sb) (a : Option Addr) (c : Nat) : Prop :=
  s.length ≤ c ∧ c ≤ maxLen ∧ (s = [] ∨ ∃ b o, a = some ⟨b, o, none⟩ ∧ b < n₀ ∧ ∀ (j : Nat) (x : Int × T), s[j]? = some x → IsB n₀ W x b (o + j * 3))
theorem IsBs.below {n₀ : Nat} {w w' : World} {s : Sb} {a : Option Addr} {c : Nat} (h : IsBs n₀ w s a c) (hb : Below n₀ w w') : IsBs n₀ w' s a c := by
  obtain ⟨h1, h2, h3⟩ := h
  refine ⟨h1, h2, ?_⟩
  rcases h3 with h3 | ⟨b, o, h4, h5, h6⟩
  · exact .inl h3
  · refine .inr ⟨b, o, h4, h5, fun j x hx => ?_⟩
    obtain ⟨p1, p2, p3⟩ := h6 j x hx
    exact ⟨p1, (hb.cell (p := ⟨b, _, none⟩) h5).trans p2, p3.below hb h5⟩
theorem IsBs.mono {n₀ n₁ : Nat} {w : World} {s : Sb} {a : Option Addr} {c : Nat} (h : IsBs n₀ w s a c) (hn : n₀ ≤ n₁) : IsBs n₁ w s a c := by
  obtain ⟨h1, h2, h3⟩ := h
  refine ⟨h1, h2, ?_⟩
  rcases h3 with h3 | ⟨b, o, h4, h5, h6⟩
  · exact .inl h3
  · exact .inr ⟨b, o, h4, by omega, fun j x hx => ⟨(h6 j x hx).1, (h6 j x hx).2.1, (h6 j x hx).2.2.mono hn⟩⟩
theorem IsBs.nil (n₀ : Nat) (w : World) (a : Option Addr) {c : Nat} (hc : c ≤ maxLen) : IsBs n₀ w [] a c := ⟨by simp, hc, .inl rfl⟩
theorem later_bs {W : World} {s : Sb} {a : Option Addr} {c : Nat} (h : IsBs W.heap.size W s a c) : Later (fun X => IsBs X.heap.size X s a c) W := fun X hX => (h.below hX).mono hX.size
/-- The element i of a list of bindings: its three cells. -/
theorem IsBs.elem {n₀ : Nat} {w : World} {s : Sb} {a : Option Addr} {c : Nat} (h : IsBs n₀ w s a c) {i : Nat} (hi : i < s.length) :
    ∃ (b o : Nat) (v : Int) (t : T) (a' : Option Addr) (c' : Nat), a = some ⟨b, o, none⟩ ∧ b < n₀ ∧ s[i]? = some (v, t) ∧ (Lit.int .i64 v).wf = true ∧ (Lit.int .i64 t.head).wf = true ∧ w.cell? ⟨b, o + i * 3, none⟩ = some (.int .i64 v) ∧ w.cell? ⟨b, o + i * 3 + 1, none⟩ = some (.int .i64 t.head) ∧
      w.cell? ⟨b, o + i * 3 + 2, none⟩ = some (.slice a' t.args.length c') ∧ IsArgs n₀ w t.args a' c' := by
  obtain ⟨_, _, h3⟩ := h
  rcases h3 with rfl | ⟨b, o, rfl, h4, h5⟩
  · simp at hi
  · obtain ⟨p0, p1, p2⟩ := h5 i _ (List.getElem?_eq_getElem hi)
    obtain ⟨q0, q1, a', c', q2, q3⟩ := isT_iff.1 p2
    exact ⟨b, o, s[i].1, s[i].2, a', c', rfl, h4, List.getElem?_eq_getElem hi, p0, q0, p1, q1, q2, q3⟩

theorem rightS_step {l : Int} {s : Sb} {k : Nat} {x : Int} {t : T} (h : s[k]? = some (x, t)) : rightS l (s.drop k) = ((decide (l ≤ x) && decide (x ≤ 255) && decide (t.check = 0) && decide (t.head ≠ -1 - x)) && rightS (x + 1) (s.drop (k + 1))) := by
  obtain ⟨hk, e⟩ := List.getElem?_eq_some_iff.1 h
  rw [List.drop_eq_getElem_cons hk, e, rightS]
theorem ofS_step {s : Sb} {k : Nat} {x : Int} {t : T} (v : Int) (h : s[k]? = some (x, t)) : ofS (s.drop k) v = if x = v then t else ofS (s.drop (k + 1)) v := by
  obtain ⟨hk, e⟩ := List.getElem?_eq_some_iff.1 h
  rw [List.drop_eq_getElem_cons hk, e, ofS]

/-! ### Small contracts -/
theorem sIsVar_any (h : Int) (a : Option Addr) (k c : Nat) (v : Int) (w : World) (h1 : -9223372036854775808 ≤ v) (h2 : v ≤ 9223372036854775807) :
    Calls Try.prog 65 #[tm h a k c, .int .i64 v] w fun e w' => e = .returned (.bool (decide (h = -1 - v))) ∧ Below w.heap.size w w' := by
  have hb := (Below.refl w.heap.size w).alloc (Nat.le_refl _) (tmCells h a k c)
  have HB := Lib.hid hb
  clear hb
  go_enter Try.func65, Try.ntmps65
  go_wp2
  go_ret
  refine ⟨?_, HB.out⟩
  congr 2

theorem sVariable_any (v : Int) (w : World) (h1 : -9223372036854775808 ≤ v) (h2 : v ≤ 9223372036854775807) :
    Calls Try.prog 68 #[.int .i64 v] w fun e w' => e = .returned (tm (-1 - v) none 0 0) ∧ Below w.heap.size w w' := by
  go_enter Try.func68, Try.ntmps68
  go_wp2
  exact bodyPost_ret (v := tm (-1 - v) none 0 0) (by simp [results, Try.results68, go_sem]) rfl ⟨rfl, ((Below.refl _ _).alloc (Nat.le_refl _) _)⟩

end Go.Proofs.Ytbfanbaijombaaa

/- St0: split off Stv: what names neither Of nor the reference's Of. -/
/- What stays when terms are put for variables: variables of terms, in plain words. And the contract of the reference's In. -/
namespace Go.Proofs.Ytbfanbaijombaaa
set_option linter.unusedVariables false
set_option linter.unusedSimpArgs false
open Go.RowKit

theorem T.head_node (h : Int) (ts : List T) : (T.node h ts).head = h := rfl
/-- The heads of all parts of a term. -/
def T.heads (t : T) : List Int := (T.subs 1 t).map (fun x => x.2.head)
mutual
theorem heads_level (l l' : Nat) : (t : T) → (T.subs l t).map (fun x => x.2.head) = (T.subs l' t).map (fun x => x.2.head)
  | .node h ts => by simp only [T.subs, List.map_cons]; rw [headss_level (l + 1) (l' + 1) ts]
theorem headss_level (l l' : Nat) : (ts : List T) → (T.subss l ts).map (fun x => x.2.head) = (T.subss l' ts).map (fun x => x.2.head)
  | [] => rfl
  | t :: ts => by simp only [T.subss, List.map_append]; rw [heads_level l l' t, headss_level l l' ts]
end
theorem T.heads_eq (t : T) : t.heads = t.head :: (t.args.map T.heads).flatten := by
  unfold T.heads
  rw [T.subs_eq, List.map_cons]
  congr 1
  have : ∀ ts : List T, (T.subss 2 ts).map (fun x => x.2.head) = (ts.map (fun t => (T.subs 1 t).map (fun x => x.2.head))).flatten := by
    intro ts
    induction ts with
    | nil => rfl
    | cons t ts ih => simp only [T.subss, List.map_append, List.map_cons, List.flatten_cons]; rw [ih, heads_level 2 1 t]
  exact this t.args
theorem mem_varsOf (pre : List (Nat × T)) (v : Int) : v ∈ varsOf pre ↔ ∃ x ∈ pre, x.2.head < 0 ∧ v = -1 - x.2.head := by
  suffices h : ∀ (pre : List (Nat × T)) (acc : List Int), v ∈ pre.foldl varStep acc ↔ v ∈ acc ∨ ∃ x ∈ pre, x.2.head < 0 ∧ v = -1 - x.2.head by
    have := h pre []
    simpa [varsOf] using this
  intro pre
  induction pre with
  | nil => intro acc; simp
  | cons x pre ih =>
    intro acc
    rw [List.foldl_cons, ih]
    have : v ∈ varStep acc x ↔ v ∈ acc ∨ (x.2.head < 0 ∧ v = -1 - x.2.head) := by
      unfold varStep
      split
      · rename_i h0
        split
        · rename_i hc
          constructor
          · exact .inl
          · rintro (h | ⟨_, rfl⟩)
            · exact h
            · simpa using hc
        · simp [h0]
      · rename_i h0
        simp [h0]
    rw [this]
    simp only [List.mem_cons, exists_eq_or_imp]
    constructor
    · rintro ((h | h) | h)
      · exact .inl h
      · exact .inr (.inl h)
      · exact .inr (.inr h)
    · rintro (h | h | h)
      · exact .inl (.inl h)
      · exact .inl (.inr h)
      · exact .inr h
theorem mem_vars (t : T) (v : Int) : v ∈ varsOf (T.subs 1 t) ↔ ∃ h ∈ t.heads, h < 0 ∧ v = -1 - h := by
  rw [mem_varsOf]
  unfold T.heads
  simp only [List.mem_map]
  constructor
  · rintro ⟨x, hx, h1, h2⟩; exact ⟨_, ⟨x, hx, rfl⟩, h1, h2⟩
  · rintro ⟨_, ⟨x, hx, rfl⟩, h1, h2⟩; exact ⟨x, hx, h1, h2⟩

/-- In a good term variables stand without arguments. -/
theorem good_leaf {t : T} (h : bad (T.subs 1 t) = false) (hn : t.head < 0) : t.args = [] := by
  have := good_head h
  simp only [okB, if_pos hn, Bool.and_eq_true, decide_eq_true_iff] at this
  exact List.eq_nil_of_length_eq_zero this.1
theorem heads_sub (f : Int → T) : ∀ (N : Nat) (t : T), t.size ≤ N → bad (T.subs 1 t) = false → ∀ h, h < 0 → (h ∈ (t.sub f).heads ↔ ∃ g ∈ t.heads, g < 0 ∧ h ∈ (f (-1 - g)).heads) := by
  intro N
  induction N with
  | zero => intro t ht; have := T.size_pos t; omega
  | succ N ih =>
    intro t ht hg h hh
    by_cases q : t.head < 0
    · rw [T.sub_neg q]
      have ha := good_leaf hg q
      rw [T.heads_eq t, ha]
      simp [q]
    · rw [T.sub_pos q, T.heads_eq, T.heads_eq t]
      simp only [T.head_node, T.args_node, List.mem_cons, List.mem_flatten, List.mem_map, List.map_map]
      constructor
      · rintro (h1 | ⟨l, ⟨s, hs, rfl⟩, hl⟩)
        · have : h = t.head := h1
          omega
        · obtain ⟨i, hi⟩ := List.getElem?_of_mem hs
          obtain ⟨g, hg1, hg2, hg3⟩ := (ih s (by have := T.size_lt_of_mem hi; have := T.size_eq t; omega) (good_arg hg hi) h hh).1 hl
          exact ⟨g, .inr ⟨_, ⟨s, hs, rfl⟩, hg1⟩, hg2, hg3⟩
      · rintro ⟨g, h1 | ⟨l, ⟨s, hs, rfl⟩, hl⟩, hg2, hg3⟩
        · have : g = t.head := h1
          omega
        · obtain ⟨i, hi⟩ := List.getElem?_of_mem hs
          exact .inr ⟨_, ⟨s, hs, rfl⟩, (ih s (by have := T.size_lt_of_mem hi; have := T.size_eq t; omega) (good_arg hg hi) h hh).2 ⟨g, hl, hg2, hg3⟩⟩
theorem sub_self (f : Int → T) : ∀ (N : Nat) (t : T), t.size ≤ N → bad (T.subs 1 t) = false → (∀ g ∈ t.heads, g < 0 → f (-1 - g) = vt (-1 - g)) → t.sub f = t := by
  intro N
  induction N with
  | zero => intro t ht; have := T.size_pos t; omega
  | succ N ih =>
    intro t ht hg hf
    by_cases q : t.head < 0
    · rw [T.sub_neg q, hf t.head (by rw [T.heads_eq]; simp) q]
      have ha := good_leaf hg q
      conv => rhs; rw [← T.eta t, ha]
      simp only [vt]
      congr 1
      omega
    · rw [T.sub_pos q]
      conv => rhs; rw [← T.eta t]
      congr 1
      conv => rhs; rw [← List.map_id t.args]
      apply List.map_congr_left
      intro s hs
      obtain ⟨i, hi⟩ := List.getElem?_of_mem hs
      exact ih s (by have := T.size_lt_of_mem hi; have := T.size_eq t; omega) (good_arg hg hi) (fun g hg1 hg2 => hf g (by rw [T.heads_eq]; exact List.mem_cons_of_mem _ (List.mem_flatten.2 ⟨_, List.mem_map.2 ⟨s, hs, rfl⟩, hg1⟩)) hg2)
theorem sub_vt {t : T} (hg : bad (T.subs 1 t) = false) : t.sub (ofS []) = t := sub_self _ t.size t (Nat.le_refl _) hg (fun g _ _ => rfl)

def InI (n : Int) (zs : List Int) (w : World) (i : Value) (wr : World) : Prop := ∃ k : Nat, k ≤ zs.length ∧ i = .int .i64 k ∧ (∀ j, j < k → zs[j]? ≠ some n) ∧ wr = w

set_option maxRecDepth 100000 in
theorem in_any (n : Int) (zs : List Int) (n₀ : Nat) (a : Option Addr) (c : Nat) (w : World) (hn : n₀ ≤ w.heap.size) (hZ : IsIs n₀ w zs a c) :
    Calls Try.prog 103 #[.int .i64 n, .slice a zs.length c] w fun e w' => e = .returned (.bool (decide (n ∈ zs))) ∧ Below w.heap.size w w' := by
  have hl : zs.length ≤ c ∧ c ≤ maxLen := ⟨hZ.1, hZ.2.1⟩
  unfold maxLen at hl
  obtain ⟨hl1, hl2⟩ := hl
  have HZ := Lib.hid hZ
  clear hZ
  go_enter Try.func103, Try.ntmps103
  go_wp2
  go_loopw [5] (fun i wr => InI n zs w i wr) (fun i _ => zs.length - (intOf i).toNat)
  case atStart => exact ⟨0, Nat.zero_le _, rfl, fun j h => by omega, rfl⟩
  case round =>
    obtain ⟨k, hk, rfl, hno, rfl⟩ := hrel
    have HN := Lib.hid hno
    clear hno
    by_cases hlt : k < zs.length
    · obtain ⟨b, o, z, rfl, hbn, hz, hcz⟩ := HZ.out.elem (k := k) hlt
      have hk0 : (0 : Int) ≤ (k : Int) := Int.natCast_nonneg _
      have hk1 : (k : Int) < (zs.length : Int) := by omega
      have HZK := Lib.hid hz
      clear hz
      by_cases q : z = n
      · subst q
        have hd : decide (z ∈ zs) = true := by simpa using List.mem_of_getElem? HZK.out
        go_wp2
        go_ret
        exact ⟨by first | (rw [hd]; rfl) | rfl, Below.refl _ _⟩
      · have q' : (z == n) = false := by simpa using q
        go_wp2
        go_roundw
        case rel =>
          refine ⟨k + 1, by omega, by go_num, fun j hj => ?_, rfl⟩
          by_cases e : j = k
          · subst e
            rw [HZK.out]
            intro e
            exact q (Option.some.inj e)
          · exact HN.out j (by omega)
        case measure => simp [intOf]; omega
    · have hd : decide (n ∈ zs) = false := by
        simp only [decide_eq_false_iff_not]
        intro hm
        obtain ⟨j, hj⟩ := List.getElem?_of_mem hm
        exact HN.out j (by have := (List.getElem?_eq_some_iff.1 hj).1; omega) hj
      go_wp2
      go_ret
      exact ⟨by first | (rw [hd]; rfl) | rfl, Below.refl _ _⟩

end Go.Proofs.Ytbfanbaijombaaa

