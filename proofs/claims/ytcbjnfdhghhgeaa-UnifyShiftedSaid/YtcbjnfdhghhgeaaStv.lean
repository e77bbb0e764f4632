/- Stv: joined of Stv, ThP. -/
import Derived.Test.YtcbjnfdhghhgeaaQ1f
import Derived.Test.YtcbjnfdhghhgeaaVars
/- What stays when terms are put for variables: variables of terms, in plain words. And the contract of the reference's In. -/
namespace Go.Proofs.Ytcbjnfdhghhgeaa
set_option linter.unusedVariables false
set_option linter.unusedSimpArgs false
open Go.RowKit

theorem T.head_node (h : Int) (ts : List T) : (T.node h ts).head = h := rfl
/-- The heads of all parts of a term. -/
def T.heads (t : T) : List Int := (T.subs 1 t).map (fun x => x.2.head)
mutual
theorem heads_level (l l' : Nat) : (t : T) → (T.subs l t).map (fun x => x.2.head) = (T.subs l' t).map (fun x => x.2.head)
  | .node h ts => by simp only [T.subs, List.map_cons]; rw [headss_level (l + 1) (l' + 1) ts]
theorem headss_level (l l' : Nat) : (ts : List T) → (T.subss l ts).map (fun x => x.2.head) = (T.subss l' ts).map (fun x => x.2.head)
  | [] => rfl
  | t :: ts => by simp only [T.subss, List.map_append]; rw [heads_level l l' t, headss_level l l' ts]
end
theorem T.heads_eq (t : T) : t.heads = t.head :: (t.args.map T.heads).flatten := by
  unfold T.heads
  rw [T.subs_eq, List.map_cons]
  congr 1
  have : ∀ ts : List T, (T.subss 2 ts).map (fun x => x.2.head) = (ts.map (fun t => (T.subs 1 t).map (fun x => x.2.head))).flatten := by
    intro ts
    induction ts with
    | nil => rfl
    | cons t ts ih => simp only [T.subss, List.map_append, List.map_cons, List.flatten_cons]; rw [ih, heads_level 2 1 t]
  exact this t.args
theorem mem_varsOf (pre : List (Nat × T)) (v : Int) : v ∈ varsOf pre ↔ ∃ x ∈ pre, x.2.head < 0 ∧ v = -1 - x.2.head := by
  suffices h : ∀ (pre : List (Nat × T)) (acc : List Int), v ∈ pre.foldl varStep acc ↔ v ∈ acc ∨ ∃ x ∈ pre, x.2.head < 0 ∧ v = -1 - x.2.head by
    have := h pre []
    simpa [varsOf] using this
  intro pre
  induction pre with
  | nil => intro acc; simp
  | cons x pre ih =>
    intro acc
    rw [List.foldl_cons, ih]
    have : v ∈ varStep acc x ↔ v ∈ acc ∨ (x.2.head < 0 ∧ v = -1 - x.2.head) := by
      unfold varStep
      split
      · rename_i h0
        split
        · rename_i hc
          constructor
          · exact .inl
          · rintro (h | ⟨_, rfl⟩)
            · exact h
            · simpa using hc
        · simp [h0]
      · rename_i h0
        simp [h0]
    rw [this]
    simp only [List.mem_cons, exists_eq_or_imp]
    constructor
    · rintro ((h | h) | h)
      · exact .inl h
      · exact .inr (.inl h)
      · exact .inr (.inr h)
    · rintro (h | h | h)
      · exact .inl (.inl h)
      · exact .inl (.inr h)
      · exact .inr h
theorem mem_vars (t : T) (v : Int) : v ∈ varsOf (T.subs 1 t) ↔ ∃ h ∈ t.heads, h < 0 ∧ v = -1 - h := by
  rw [mem_varsOf]
  unfold T.heads
  simp only [List.mem_map]
  constructor
  · rintro ⟨x, hx, h1, h2⟩; exact ⟨_, ⟨x, hx, rfl⟩, h1, h2⟩
  · rintro ⟨_, ⟨x, hx, rfl⟩, h1, h2⟩; exact ⟨x, hx, h1, h2⟩

/-- In a good term variables stand without arguments. -/
theorem good_leaf {t : T} (h : bad (T.subs 1 t) = false) (hn : t.head < 0) : t.args = [] := by
  have := good_head h
  simp only [okB, if_pos hn, Bool.and_eq_true, decide_eq_true_iff] at this
  exact List.eq_nil_of_length_eq_zero this.1
theorem heads_sub (f : Int → T) : ∀ (N : Nat) (t : T), t.size ≤ N → bad (T.subs 1 t) = false → ∀ h, h < 0 → (h ∈ (t.sub f).heads ↔ ∃ g ∈ t.heads, g < 0 ∧ h ∈ (f (-1 - g)).heads) := by
  intro N
  induction N with
  | zero => intro t ht; have := T.size_pos t; omega
  | succ N ih =>
    intro t ht hg h hh
    by_cases q : t.head < 0
    · rw [T.sub_neg q]
      have ha := good_leaf hg q
      rw [T.heads_eq t, ha]
      simp [q]
    · rw [T.sub_pos q, T.heads_eq, T.heads_eq t]
      simp only [T.head_node, T.args_node, List.mem_cons, List.mem_flatten, List.mem_map, List.map_map]
      constructor
      · rintro (h1 | ⟨l, ⟨s, hs, rfl⟩, hl⟩)
        · have : h = t.head := h1
          omega
        · obtain ⟨i, hi⟩ := List.getElem?_of_mem hs
          obtain ⟨g, hg1, hg2, hg3⟩ := (ih s (by have := T.size_lt_of_mem hi; have := T.size_eq t; omega) (good_arg hg hi) h hh).1 hl
          exact ⟨g, .inr ⟨_, ⟨s, hs, rfl⟩, hg1⟩, hg2, hg3⟩
      · rintro ⟨g, h1 | ⟨l, ⟨s, hs, rfl⟩, hl⟩, hg2, hg3⟩
        · have : g = t.head := h1
          omega
        · obtain ⟨i, hi⟩ := List.getElem?_of_mem hs
          exact .inr ⟨_, ⟨s, hs, rfl⟩, (ih s (by have := T.size_lt_of_mem hi; have := T.size_eq t; omega) (good_arg hg hi) h hh).2 ⟨g, hl, hg2, hg3⟩⟩
theorem sub_self (f : Int → T) : ∀ (N : Nat) (t : T), t.size ≤ N → bad (T.subs 1 t) = false → (∀ g ∈ t.heads, g < 0 → f (-1 - g) = vt (-1 - g)) → t.sub f = t := by
  intro N
  induction N with
  | zero => intro t ht; have := T.size_pos t; omega
  | succ N ih =>
    intro t ht hg hf
    by_cases q : t.head < 0
    · rw [T.sub_neg q, hf t.head (by rw [T.heads_eq]; simp) q]
      have ha := good_leaf hg q
      conv => rhs; rw [← T.eta t, ha]
      simp only [vt]
      congr 1
      omega
    · rw [T.sub_pos q]
      conv => rhs; rw [← T.eta t]
      congr 1
      conv => rhs; rw [← List.map_id t.args]
      apply List.map_congr_left
      intro s hs
      obtain ⟨i, hi⟩ := List.getElem?_of_mem hs
      exact ih s (by have := T.size_lt_of_mem hi; have := T.size_eq t; omega) (good_arg hg hi) (fun g hg1 hg2 => hf g (by rw [T.heads_eq]; exact List.mem_cons_of_mem _ (List.mem_flatten.2 ⟨_, List.mem_map.2 ⟨s, hs, rfl⟩, hg1⟩)) hg2)
theorem sub_vt {t : T} (hg : bad (T.subs 1 t) = false) : t.sub (ofS []) = t := sub_self _ t.size t (Nat.le_refl _) hg (fun g _ _ => rfl)

def InI (n : Int) (zs : List Int) (w : World) (i : Value) (wr : World) : Prop := ∃ k : Nat, k ≤ zs.length ∧ i = .int .i64 k ∧ (∀ j, j < k → zs[j]? ≠ some n) ∧ wr = w

set_option maxRecDepth 100000 in
theorem in_any (n : Int) (zs : List Int) (n₀ : Nat) (a : Option Addr) (c : Nat) (w : World) (hn : n₀ ≤ w.heap.size) (hZ : IsIs n₀ w zs a c) :
    Calls Try.prog 27 #[.int .i64 n, .slice a zs.length c] w fun e w' => e = .returned (.bool (decide (n ∈ zs))) ∧ Below w.heap.size w w' := by
  have hl : zs.length ≤ c ∧ c ≤ maxLen := ⟨hZ.1, hZ.2.1⟩
  unfold maxLen at hl
  obtain ⟨hl1, hl2⟩ := hl
  have HZ := Lib.hid hZ
  clear hZ
  go_enter Try.func27, Try.ntmps27
  go_wp2
  go_loopw [5] (fun i wr => InI n zs w i wr) (fun i _ => zs.length - (intOf i).toNat)
  case atStart => exact ⟨0, Nat.zero_le _, rfl, fun j h => by omega, rfl⟩
  case round =>
    obtain ⟨k, hk, rfl, hno, rfl⟩ := hrel
    have HN := Lib.hid hno
    clear hno
    by_cases hlt : k < zs.length
    · obtain ⟨b, o, z, rfl, hbn, hz, hcz⟩ := HZ.out.elem (k := k) hlt
      have hk0 : (0 : Int) ≤ (k : Int) := Int.natCast_nonneg _
      have hk1 : (k : Int) < (zs.length : Int) := by omega
      have HZK := Lib.hid hz
      clear hz
      by_cases q : z = n
      · subst q
        have hd : decide (z ∈ zs) = true := by simpa using List.mem_of_getElem? HZK.out
        go_wp2
        go_ret
        exact ⟨by first | (rw [hd]; rfl) | rfl, Below.refl _ _⟩
      · have q' : (z == n) = false := by simpa using q
        go_wp2
        go_roundw
        case rel =>
          refine ⟨k + 1, by omega, by go_num, fun j hj => ?_, rfl⟩
          by_cases e : j = k
          · subst e
            rw [HZK.out]
            intro e
            exact q (Option.some.inj e)
          · exact HN.out j (by omega)
        case measure => simp [intOf]; omega
    · have hd : decide (n ∈ zs) = false := by
        simp only [decide_eq_false_iff_not]
        intro hm
        obtain ⟨j, hj⟩ := List.getElem?_of_mem hm
        exact HN.out j (by have := (List.getElem?_eq_some_iff.1 hj).1; omega) hj
      go_wp2
      go_ret
      exact ⟨by first | (rw [hd]; rfl) | rfl, Below.refl _ _⟩

end Go.Proofs.Ytcbjnfdhghhgeaa

/- Two substitutions, one behind the other: plain words. -/
namespace Go.Proofs.Ytcbjnfdhghhgeaa
set_option linter.unusedVariables false
set_option linter.unusedSimpArgs false
open Go.RowKit

/-- What Then puts for a variable. -/
def thenT (s u : Sb) (v : Int) : T := (ofS s v).sub (ofS u)
def thenL (s u : Sb) : List Int → Sb
  | [] => []
  | v :: vs => if (thenT s u v).head = -1 - v then thenL s u vs else (v, thenT s u v) :: thenL s u vs
def thenE (s u : Sb) : List Int → Int
  | [] => 0
  | v :: vs => if (thenT s u v).check = 0 then thenE s u vs else (thenT s u v).check

mutual
theorem T.sub_sub (f g : Int → T) : (t : T) → (t.sub f).sub g = t.sub (fun v => (f v).sub g)
  | .node h ts => by
    by_cases q : h < 0
    · rw [T.sub, if_pos q, T.sub, if_pos q]
    · rw [T.sub, if_neg q, T.sub, if_neg q, T.sub, if_neg q, T.subl_subl f g ts]
theorem T.subl_subl (f g : Int → T) : (ts : List T) → T.subl g (T.subl f ts) = T.subl (fun v => (f v).sub g) ts
  | [] => rfl
  | t :: ts => by rw [T.subl, T.subl, T.subl, T.sub_sub f g t, T.subl_subl f g ts]
end
theorem sub_congr {f g : Int → T} : ∀ (N : Nat) (t : T), t.size ≤ N → bad (T.subs 1 t) = false → (∀ v, 0 ≤ v → v ≤ 255 → f v = g v) → t.sub f = t.sub g := by
  intro N
  induction N with
  | zero => intro t ht; have := T.size_pos t; omega
  | succ N ih =>
    intro t ht hg hf
    by_cases q : t.head < 0
    · rw [T.sub_neg q, T.sub_neg q]
      have := good_head hg
      simp only [okB, if_pos q, Bool.and_eq_true, decide_eq_true_iff] at this
      exact hf _ (by omega) this.2
    · rw [T.sub_pos q, T.sub_pos q]
      congr 1
      apply List.map_congr_left
      intro s hs
      obtain ⟨i, hi⟩ := List.getElem?_of_mem hs
      exact ih s (by have := T.size_lt_of_mem hi; have := T.size_eq t; omega) (good_arg hg hi) hf
theorem vt_of_head {x : T} (hc : x.check = 0) {v : Int} (hv : 0 ≤ v) (h : x.head = -1 - v) : x = vt v := by
  have ha := good_leaf (check_ok hc).2.2 (by omega)
  rw [← T.eta x, ha, h]
  rfl
theorem thenE_zero {s u : Sb} : ∀ {vs : List Int}, thenE s u vs = 0 → ∀ v ∈ vs, (thenT s u v).check = 0 := by
  intro vs
  induction vs with
  | nil => simp
  | cons w vs ih =>
    intro h v hv
    rw [thenE] at h
    split at h
    · rename_i hw
      rcases List.mem_cons.1 hv with rfl | hv
      · exact hw
      · exact ih h v hv
    · rename_i hw
      exact absurd h hw
theorem thenL_right {s u : Sb} : ∀ {vs : List Int} {l : Int}, vs.Pairwise (· < ·) → (∀ v ∈ vs, l ≤ v ∧ v ≤ 255) → thenE s u vs = 0 → rightS l (thenL s u vs) = true := by
  intro vs
  induction vs with
  | nil => intros; rfl
  | cons v vs ih =>
    intro l hp hb he
    have hz := thenE_zero he
    rw [thenE, if_pos (hz v (by simp))] at he
    rw [List.pairwise_cons] at hp
    have hv := hb v (by simp)
    have htail : ∀ m : Int, m ≤ v + 1 → rightS m (thenL s u vs) = true := fun m hm => ih hp.2 (fun w hw => ⟨by have := hp.1 w hw; omega, (hb w (by simp [hw])).2⟩) he
    rw [thenL]
    split
    · exact htail l (by omega)
    · rename_i hne
      rw [rightS, decide_eq_true hv.1, decide_eq_true hv.2, decide_eq_true (hz v (by simp)), decide_eq_true (show (thenT s u v).head ≠ -1 - v from hne), htail (v + 1) (by omega)]
      rfl
theorem thenL_of {s u : Sb} : ∀ {vs : List Int}, vs.Pairwise (· < ·) → thenE s u vs = 0 → ∀ v, 0 ≤ v → ofS (thenL s u vs) v = if v ∈ vs then thenT s u v else vt v := by
  intro vs
  induction vs with
  | nil => intros; rfl
  | cons w vs ih =>
    intro hp he v hv
    have hz := thenE_zero he
    rw [thenE, if_pos (hz w (by simp))] at he
    rw [List.pairwise_cons] at hp
    have hi := ih hp.2 he v hv
    rw [thenL]
    split
    · rename_i hh
      rw [hi]
      by_cases e : v = w
      · subst e
        rw [if_neg (fun hm => by have := hp.1 v hm; omega), if_pos (by simp)]
        exact (vt_of_head (hz v (by simp)) hv hh).symm
      · simp [e]
    · rw [ofS]
      by_cases e : w = v
      · subst e; simp
      · rw [if_neg e, hi]
        have e' : ¬ v = w := fun h => e h.symm
        simp [e']
/-- The variables of both. -/
def IsVs (s u : Sb) (vs : List Int) : Prop := vs.Pairwise (· < ·) ∧ ∀ v, v ∈ vs ↔ bnd s v = true ∨ bnd u v = true
theorem thenL_all {s u : Sb} {vs : List Int} (hv : IsVs s u vs) (he : thenE s u vs = 0) {v : Int} (h0 : 0 ≤ v) : ofS (thenL s u vs) v = thenT s u v := by
  rw [thenL_of hv.1 he v h0]
  split
  · rfl
  · rename_i hn
    rw [hv.2] at hn
    have h1 : bnd s v = false := by cases h : bnd s v; rfl; exact absurd (.inl h) hn
    have h2 : bnd u v = false := by cases h : bnd u v; rfl; exact absurd (.inr h) hn
    unfold thenT
    rw [ofS_unbound h1, T.sub_neg (show (vt v).head < 0 from by show -1 - v < 0; omega), show -1 - (vt v).head = v from by show -1 - (-1 - v) = v; omega, ofS_unbound h2]

theorem thenL_append (s u : Sb) (a b : List Int) : thenL s u (a ++ b) = thenL s u a ++ thenL s u b := by
  induction a with
  | nil => rfl
  | cons v a ih =>
    simp only [List.cons_append, thenL]
    split
    · exact ih
    · rw [ih]; rfl
theorem thenE_append {s u : Sb} {a : List Int} (h : thenE s u a = 0) (b : List Int) : thenE s u (a ++ b) = thenE s u b := by
  induction a with
  | nil => rfl
  | cons v a ih =>
    rw [thenE] at h
    split at h
    · rename_i hv
      rw [List.cons_append, thenE, if_pos hv]
      exact ih h
    · rename_i hv
      exact absurd h hv
theorem thenE_stop {s u : Sb} {vs : List Int} {k : Nat} {z : Int} (h : thenE s u (vs.take k) = 0) (hz : vs[k]? = some z) (hc : (thenT s u z).check ≠ 0) : thenE s u vs = (thenT s u z).check := by
  obtain ⟨hk, e⟩ := List.getElem?_eq_some_iff.1 hz
  conv => lhs; rw [← List.take_append_drop k vs, List.drop_eq_getElem_cons hk, e]
  rw [thenE_append h, thenE, if_neg hc]
theorem thenE_step {s u : Sb} {vs : List Int} {k : Nat} {z : Int} (h : thenE s u (vs.take k) = 0) (hz : vs[k]? = some z) (hc : (thenT s u z).check = 0) : thenE s u (vs.take (k + 1)) = 0 := by
  obtain ⟨hk, e⟩ := List.getElem?_eq_some_iff.1 hz
  rw [List.take_succ_eq_append_getElem hk, e, thenE_append h, thenE, if_pos hc]
  rfl
theorem thenL_step {s u : Sb} {vs : List Int} {k : Nat} {z : Int} (hz : vs[k]? = some z) : thenL s u (vs.take (k + 1)) = thenL s u (vs.take k) ++ (if (thenT s u z).head = -1 - z then [] else [(z, thenT s u z)]) := by
  obtain ⟨hk, e⟩ := List.getElem?_eq_some_iff.1 hz
  rw [List.take_succ_eq_append_getElem hk, e, thenL_append]
  congr 1
/-- Of two rising lists with the same members there is but one. -/
theorem rising_unique : ∀ {a b : List Int}, a.Pairwise (· < ·) → b.Pairwise (· < ·) → (∀ v, v ∈ a ↔ v ∈ b) → a = b := by
  intro a
  induction a with
  | nil =>
    intro b _ _ h
    cases b with
    | nil => rfl
    | cons y b => exact absurd ((h y).2 (by simp)) (by simp)
  | cons x a ih =>
    intro b ha hb h
    cases b with
    | nil => exact absurd ((h x).1 (by simp)) (by simp)
    | cons y b =>
      rw [List.pairwise_cons] at ha hb
      have hxy : x = y := by
        rcases List.mem_cons.1 ((h x).1 (by simp)) with h1 | h1
        · exact h1
        · rcases List.mem_cons.1 ((h y).2 (by simp)) with h2 | h2
          · exact h2.symm
          · have := hb.1 x h1; have := ha.1 y h2; omega
      subst hxy
      congr 1
      refine ih ha.2 hb.2 fun v => ?_
      constructor
      · intro hv
        rcases List.mem_cons.1 ((h v).1 (List.mem_cons_of_mem _ hv)) with h1 | h1
        · have := ha.1 v hv; omega
        · exact h1
      · intro hv
        rcases List.mem_cons.1 ((h v).2 (List.mem_cons_of_mem _ hv)) with h1 | h1
        · have := hb.1 v hv; omega
        · exact h1

end Go.Proofs.Ytcbjnfdhghhgeaa
