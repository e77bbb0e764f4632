/- What stays when terms are put for variables: variables of terms, in plain words. And the contract of the reference's In. -/
import Derived.Test.YtfkaecjdncjggaaApp
import Derived.Test.YtfkaecjdncjggaaVars
import Derived.Test.YtfkaecjdncjggaaPl0
namespace Go.Proofs.Ytfkaecjdncjggaa
set_option linter.unusedVariables false
set_option linter.unusedSimpArgs false
open Go.RowKit

theorem T.head_node (h : Int) (ts : List T) : (T.node h ts).head = h := rfl
/-- The heads of all parts of a term. -/
def T.heads (t : T) : List Int := (T.subs 1 t).map (fun x => x.2.head)
mutual
theorem heads_level (l l' : Nat) : (t : T) → (T.subs l t).map (fun x => x.2.head) = (T.subs l' t).map (fun x => x.2.head)
  | .node h ts => by simp only [T.subs, List.map_cons]; rw [headss_level (l + 1) (l' + 1) ts]
theorem headss_level (l l' : Nat) : (ts : List T) → (T.subss l ts).map (fun x => x.2.head) = (T.subss l' ts).map (fun x => x.2.head)
  | [] => rfl
  | t :: ts => by simp only [T.subss, List.map_append]; rw [heads_level l l' t, headss_level l l' ts]
end
theorem T.heads_eq (t : T) : t.heads = t.head :: (t.args.map T.heads).flatten := by
  unfold T.heads
  rw [T.subs_eq, List.map_cons]
  congr 1
  have : ∀ ts : List T, (T.subss 2 ts).map (fun x => x.2.head) = (ts.map (fun t => (T.subs 1 t).map (fun x => x.2.head))).flatten := by
    intro ts
    induction ts with
    | nil => rfl
    | cons t ts ih => simp only [T.subss, List.map_append, List.map_cons, List.flatten_cons]; rw [ih, heads_level 2 1 t]
  exact this t.args
theorem mem_varsOf (pre : List (Nat × T)) (v : Int) : v ∈ varsOf pre ↔ ∃ x ∈ pre, x.2.head < 0 ∧ v = -1 - x.2.head := by
  suffices h : ∀ (pre : List (Nat × T)) (acc : List Int), v ∈ pre.foldl varStep acc ↔ v ∈ acc ∨ ∃ x ∈ pre, x.2.head < 0 ∧ v = -1 - x.2.head by
    have := h pre []
    simpa [varsOf] using this
  intro pre
  induction pre with
  | nil => intro acc; simp
  | cons x pre ih =>
    intro acc
    rw [List.foldl_cons, ih]
    have : v ∈ varStep acc x ↔ v ∈ acc ∨ (x.2.head < 0 ∧ v = -1 - x.2.head) := by
      unfold varStep
      split
      · rename_i h0
        split
        · rename_i hc
          constructor
          · exact .inl
          · rintro (h | ⟨_, rfl⟩)
            · exact h
            · simpa using hc
        · simp [h0]
      · rename_i h0
        simp [h0]
    rw [this]
    simp only [List.mem_cons, exists_eq_or_imp]
    constructor
    · rintro ((h | h) | h)
      · exact .inl h
      · exact .inr (.inl h)
      · exact .inr (.inr h)
    · rintro (h | h | h)
      · exact .inl (.inl h)
      · exact .inl (.inr h)
      · exact .inr h
theorem mem_vars (t : T) (v : Int) : v ∈ varsOf (T.subs 1 t) ↔ ∃ h ∈ t.heads, h < 0 ∧ v = -1 - h := by
  rw [mem_varsOf]
  unfold T.heads
  simp only [List.mem_map]
  constructor
  · rintro ⟨x, hx, h1, h2⟩; exact ⟨_, ⟨x, hx, rfl⟩, h1, h2⟩
  · rintro ⟨_, ⟨x, hx, rfl⟩, h1, h2⟩; exact ⟨x, hx, h1, h2⟩

/-- In a good term variables stand without arguments. -/
theorem good_leaf {t : T} (h : bad (T.subs 1 t) = false) (hn : t.head < 0) : t.args = [] := by
  have := good_head h
  simp only [okB, if_pos hn, Bool.and_eq_true, decide_eq_true_iff] at this
  exact List.eq_nil_of_length_eq_zero this.1
theorem heads_sub (f : Int → T) : ∀ (N : Nat) (t : T), t.size ≤ N → bad (T.subs 1 t) = false → ∀ h, h < 0 → (h ∈ (t.sub f).heads ↔ ∃ g ∈ t.heads, g < 0 ∧ h ∈ (f (-1 - g)).heads) := by
  intro N
  induction N with
  | zero => intro t ht; have := T.size_pos t; omega
  | succ N ih =>
    intro t ht hg h hh
    by_cases q : t.head < 0
    · rw [T.sub_neg q]
      have ha := good_leaf hg q
      rw [T.heads_eq t, ha]
      simp [q]
    · rw [T.sub_pos q, T.heads_eq, T.heads_eq t]
      simp only [T.head_node, T.args_node, List.mem_cons, List.mem_flatten, List.mem_map, List.map_map]
      constructor
      · rintro (h1 | ⟨l, ⟨s, hs, rfl⟩, hl⟩)
        · have : h = t.head := h1
          omega
        · obtain ⟨i, hi⟩ := List.getElem?_of_mem hs
          obtain ⟨g, hg1, hg2, hg3⟩ := (ih s (by have := T.size_lt_of_mem hi; have := T.size_eq t; omega) (good_arg hg hi) h hh).1 hl
          exact ⟨g, .inr ⟨_, ⟨s, hs, rfl⟩, hg1⟩, hg2, hg3⟩
      · rintro ⟨g, h1 | ⟨l, ⟨s, hs, rfl⟩, hl⟩, hg2, hg3⟩
        · have : g = t.head := h1
          omega
        · obtain ⟨i, hi⟩ := List.getElem?_of_mem hs
          exact .inr ⟨_, ⟨s, hs, rfl⟩, (ih s (by have := T.size_lt_of_mem hi; have := T.size_eq t; omega) (good_arg hg hi) h hh).2 ⟨g, hl, hg2, hg3⟩⟩
theorem sub_self (f : Int → T) : ∀ (N : Nat) (t : T), t.size ≤ N → bad (T.subs 1 t) = false → (∀ g ∈ t.heads, g < 0 → f (-1 - g) = vt (-1 - g)) → t.sub f = t := by
  intro N
  induction N with
  | zero => intro t ht; have := T.size_pos t; omega
  | succ N ih =>
    intro t ht hg hf
    by_cases q : t.head < 0
    · rw [T.sub_neg q, hf t.head (by rw [T.heads_eq]; simp) q]
      have ha := good_leaf hg q
      conv => rhs; rw [← T.eta t, ha]
      simp only [vt]
      congr 1
      omega
    · rw [T.sub_pos q]
      conv => rhs; rw [← T.eta t]
      congr 1
      conv => rhs; rw [← List.map_id t.args]
      apply List.map_congr_left
      intro s hs
      obtain ⟨i, hi⟩ := List.getElem?_of_mem hs
      exact ih s (by have := T.size_lt_of_mem hi; have := T.size_eq t; omega) (good_arg hg hi) (fun g hg1 hg2 => hf g (by rw [T.heads_eq]; exact List.mem_cons_of_mem _ (List.mem_flatten.2 ⟨_, List.mem_map.2 ⟨s, hs, rfl⟩, hg1⟩)) hg2)
theorem sub_vt {t : T} (hg : bad (T.subs 1 t) = false) : t.sub (ofS []) = t := sub_self _ t.size t (Nat.le_refl _) hg (fun g _ _ => rfl)

def InI (n : Int) (zs : List Int) (w : World) (i : Value) (wr : World) : Prop := ∃ k : Nat, k ≤ zs.length ∧ i = .int .i64 k ∧ (∀ j, j < k → zs[j]? ≠ some n) ∧ wr = w

set_option maxRecDepth 100000 in
theorem in_any (n : Int) (zs : List Int) (n₀ : Nat) (a : Option Addr) (c : Nat) (w : World) (hn : n₀ ≤ w.heap.size) (hZ : IsIs n₀ w zs a c) :
    Calls Try.prog 24 #[.int .i64 n, .slice a zs.length c] w fun e w' => e = .returned (.bool (decide (n ∈ zs))) ∧ Below w.heap.size w w' := by
  have hl : zs.length ≤ c ∧ c ≤ maxLen := ⟨hZ.1, hZ.2.1⟩
  unfold maxLen at hl
  obtain ⟨hl1, hl2⟩ := hl
  have HZ := Lib.hid hZ
  clear hZ
  go_enter Try.func24, Try.ntmps24
  go_wp2
  go_loopw [5] (fun i wr => InI n zs w i wr) (fun i _ => zs.length - (intOf i).toNat)
  case atStart => exact ⟨0, Nat.zero_le _, rfl, fun j h => by omega, rfl⟩
  case round =>
    obtain ⟨k, hk, rfl, hno, rfl⟩ := hrel
    have HN := Lib.hid hno
    clear hno
    by_cases hlt : k < zs.length
    · obtain ⟨b, o, z, rfl, hbn, hz, hcz⟩ := HZ.out.elem (k := k) hlt
      have hk0 : (0 : Int) ≤ (k : Int) := Int.natCast_nonneg _
      have hk1 : (k : Int) < (zs.length : Int) := by omega
      have HZK := Lib.hid hz
      clear hz
      by_cases q : z = n
      · subst q
        have hd : decide (z ∈ zs) = true := by simpa using List.mem_of_getElem? HZK.out
        go_wp2
        go_ret
        exact ⟨by first | (rw [hd]; rfl) | rfl, Below.refl _ _⟩
      · have q' : (z == n) = false := by simpa using q
        go_wp2
        go_roundw
        case rel =>
          refine ⟨k + 1, by omega, by go_num, fun j hj => ?_, rfl⟩
          by_cases e : j = k
          · subst e
            rw [HZK.out]
            intro e
            exact q (Option.some.inj e)
          · exact HN.out j (by omega)
        case measure => simp [intOf]; omega
    · have hd : decide (n ∈ zs) = false := by
        simp only [decide_eq_false_iff_not]
        intro hm
        obtain ⟨j, hj⟩ := List.getElem?_of_mem hm
        exact HN.out j (by have := (List.getElem?_eq_some_iff.1 hj).1; omega) hj
      go_wp2
      go_ret
      exact ⟨by first | (rw [hd]; rfl) | rfl, Below.refl _ _⟩

end Go.Proofs.Ytfkaecjdncjggaa
