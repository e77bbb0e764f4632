/- QBk: joined of Mul, Kb5, Rv0, Sb0. -/
import Derived.Lib.Hide
import Derived.Test.YtleohdddaadbeaaGreatQBh
import Derived.Test.YtleohdddaadbeaaGreatLeaf
import Derived.Test.YtleohdddaadbeaaGreatQBa
import Derived.Test.YtleohdddaadbeaaGreatQBd
/- Multisets compared by a strict order of their elements: plain facts, for any type. -/
namespace Go.Proofs.YtleohdddaadbeaaGreat
set_option linter.unusedVariables false
set_option linter.unusedSimpArgs false
set_option linter.unusedSectionVars false

section
variable {α : Type} [DecidableEq α] {R : α → α → Prop}

/-- a is greater than b: where b has more of y, a has more of some x that is greater than y; and a has more of something. -/
def gtMs (R : α → α → Prop) (a b : List α) : Prop := (∃ x, b.count x < a.count x) ∧ ∀ y, a.count y < b.count y → ∃ x, b.count x < a.count x ∧ R x y

/-- Of some that meet a condition one is greatest, in that none that meets it is greater. -/
theorem exists_max (hi : ∀ x, ¬ R x x) (ht : ∀ x y z, R x y → R y z → R x z) (p : α → Prop) : ∀ (l : List α), (∃ x ∈ l, p x) → ∃ x ∈ l, p x ∧ ∀ y ∈ l, p y → ¬ R y x
  | [], h => by obtain ⟨x, hx, _⟩ := h; simp at hx
  | a :: l, h => by
    by_cases hl : ∃ x ∈ l, p x
    · obtain ⟨x, hx, hp, hm⟩ := exists_max hi ht p l hl
      by_cases q : p a ∧ R a x
      · refine ⟨a, List.mem_cons_self .., q.1, fun y hy hpy hr => ?_⟩
        rcases List.mem_cons.1 hy with rfl | hy
        · exact hi _ hr
        · exact hm y hy hpy (ht _ _ _ hr q.2)
      · refine ⟨x, List.mem_cons_of_mem _ hx, hp, fun y hy hpy hr => ?_⟩
        rcases List.mem_cons.1 hy with rfl | hy
        · exact q ⟨hpy, hr⟩
        · exact hm y hy hpy hr
    · obtain ⟨x, hx, hp⟩ := h
      rcases List.mem_cons.1 hx with rfl | hx
      · refine ⟨x, List.mem_cons_self .., hp, fun y hy hpy hr => ?_⟩
        rcases List.mem_cons.1 hy with rfl | hy
        · exact hi _ hr
        · exact hl ⟨y, hy, hpy⟩
      · exact absurd ⟨x, hx, hp⟩ hl

theorem gtMs_irrefl (a : List α) : ¬ gtMs R a a := fun ⟨⟨x, hx⟩, _⟩ => by omega
theorem gtMs_congr {a b a' b' : List α} (ha : ∀ x, a.count x = a'.count x) (hb : ∀ x, b.count x = b'.count x) : gtMs R a b ↔ gtMs R a' b' := by
  unfold gtMs
  simp only [ha, hb]

theorem gtMs_trans (hi : ∀ x, ¬ R x x) (ht : ∀ x y z, R x y → R y z → R x z) {a b c : List α} (h1 : gtMs R a b) (h2 : gtMs R b c) : gtMs R a c := by
  obtain ⟨⟨x0, hx0⟩, d1⟩ := h1
  obtain ⟨_, d2⟩ := h2
  -- among those that differ, a greatest one has more in a than in c
  have key : ∀ (p : α → Prop), (∀ x y, p x → R y x → p y) → (∃ x, p x ∧ (a.count x ≠ b.count x ∨ b.count x ≠ c.count x)) → ∃ z, p z ∧ c.count z < a.count z := by
    intro p hup hex
    obtain ⟨x, hpx, hd⟩ := hex
    have hl : ∃ x ∈ a ++ b ++ c, p x ∧ (a.count x ≠ b.count x ∨ b.count x ≠ c.count x) := by
      refine ⟨x, ?_, hpx, hd⟩
      have : 0 < a.count x ∨ 0 < b.count x ∨ 0 < c.count x := by omega
      simp only [List.mem_append]
      rcases this with h | h | h
      · exact .inl (.inl (List.count_pos_iff.1 h))
      · exact .inl (.inr (List.count_pos_iff.1 h))
      · exact .inr (List.count_pos_iff.1 h)
    obtain ⟨z, _, ⟨hpz, hdz⟩, hm⟩ := exists_max hi ht (fun x => p x ∧ (a.count x ≠ b.count x ∨ b.count x ≠ c.count x)) (a ++ b ++ c) hl
    have none : ∀ y, R y z → a.count y = b.count y ∧ b.count y = c.count y := by
      intro y hy
      by_cases e : a.count y ≠ b.count y ∨ b.count y ≠ c.count y
      · exfalso
        have hmem : y ∈ a ++ b ++ c := by
          have : 0 < a.count y ∨ 0 < b.count y ∨ 0 < c.count y := by omega
          simp only [List.mem_append]
          rcases this with h | h | h
          · exact .inl (.inl (List.count_pos_iff.1 h))
          · exact .inl (.inr (List.count_pos_iff.1 h))
          · exact .inr (List.count_pos_iff.1 h)
        exact hm y hmem ⟨hup z y hpz hy, e⟩ hy
      · omega
    have g1 : b.count z ≤ a.count z := by
      by_cases q : a.count z < b.count z
      · obtain ⟨x, hx, hr⟩ := d1 z q
        have := (none x hr).1
        omega
      · omega
    have g2 : c.count z ≤ b.count z := by
      by_cases q : b.count z < c.count z
      · obtain ⟨x, hx, hr⟩ := d2 z q
        have := (none x hr).2
        omega
      · omega
    exact ⟨z, hpz, by omega⟩
  constructor
  · obtain ⟨z, _, hz⟩ := key (fun _ => True) (fun _ _ _ _ => trivial) ⟨x0, trivial, .inl (by omega)⟩
    exact ⟨z, hz⟩
  · intro y hy
    have : ∃ x, R x y ∧ (a.count x ≠ b.count x ∨ b.count x ≠ c.count x) := by
      by_cases q : b.count y < c.count y
      · obtain ⟨x, hx, hr⟩ := d2 y q
        exact ⟨x, hr, .inr (by omega)⟩
      · obtain ⟨x, hx, hr⟩ := d1 y (by omega)
        exact ⟨x, hr, .inl (by omega)⟩
    obtain ⟨z, hz, hc⟩ := key (fun x => R x y) (fun x z hx hz => ht _ _ _ hz hx) this
    exact ⟨z, hc, hz⟩
theorem gtMs_asym (hi : ∀ x, ¬ R x x) (ht : ∀ x y z, R x y → R y z → R x z) {a b : List α} (h : gtMs R a b) : ¬ gtMs R b a := fun h' => gtMs_irrefl a (gtMs_trans hi ht h h')

/-- The other way to say it: something common, and for each of the rest of b a greater one in the rest of a, which is not empty. -/
theorem gtMs_of {Z X Y : List α} (hi : ∀ x, ¬ R x x) (ht : ∀ x y z, R x y → R y z → R x z) (hX : X ≠ []) (h : ∀ y ∈ Y, ∃ x ∈ X, R x y) : gtMs R (Z ++ X) (Z ++ Y) := by
  have key : ∀ (p : α → Prop), (∀ x y, p x → R y x → p y) → (∃ x ∈ X, p x) → ∃ z, p z ∧ Y.count z < X.count z := by
    intro p hup hex
    obtain ⟨z, hz, hpz, hm⟩ := exists_max hi ht p X hex
    refine ⟨z, hpz, ?_⟩
    have h1 : 0 < X.count z := List.count_pos_iff.2 hz
    by_cases q : 0 < Y.count z
    · obtain ⟨x, hx, hr⟩ := h z (List.count_pos_iff.1 q)
      exact absurd hr (hm x hx (hup z x hpz hr))
    · omega
  constructor
  · obtain ⟨x, hx⟩ := List.exists_mem_of_ne_nil X hX
    obtain ⟨z, _, hz⟩ := key (fun _ => True) (fun _ _ _ _ => trivial) ⟨x, hx, trivial⟩
    exact ⟨z, by rw [List.count_append, List.count_append]; omega⟩
  · intro y hy
    rw [List.count_append, List.count_append] at hy
    obtain ⟨x, hx, hr⟩ := h y (List.count_pos_iff.1 (by omega))
    obtain ⟨z, hz, hc⟩ := key (fun x => R x y) (fun x z hx hz => ht _ _ _ hz hx) ⟨x, hx, hr⟩
    exact ⟨z, by rw [List.count_append, List.count_append]; omega, hz⟩

/-- What two rows have in common, and what is left. -/
def comM : List α → List α → List α
  | [], _ => []
  | t :: a, b => if t ∈ b then t :: comM a (b.erase t) else comM a b
def remM : List α → List α → List α
  | [], _ => []
  | t :: a, b => if t ∈ b then remM a (b.erase t) else t :: remM a b
theorem remM_count (z : α) : ∀ (a b : List α), (remM a b).count z = a.count z - b.count z
  | [], b => by simp [remM]
  | t :: a, b => by
    rw [remM]
    by_cases h : t ∈ b
    · rw [if_pos h, remM_count z a (b.erase t), List.count_cons, List.count_erase]
      by_cases e : t = z
      · subst e
        have : 0 < b.count t := List.count_pos_iff.2 h
        simp; omega
      · have e1 : (t == z) = false := by simpa using e
        simp [e1]
    · rw [if_neg h, List.count_cons, remM_count z a b, List.count_cons]
      by_cases e : t = z
      · subst e
        rw [List.count_eq_zero.2 h]; simp
      · have e1 : (t == z) = false := by simpa using e
        simp [e1]
theorem comM_count (z : α) : ∀ (a b : List α), (comM a b).count z = min (a.count z) (b.count z)
  | [], b => by simp [comM]
  | t :: a, b => by
    rw [comM]
    by_cases h : t ∈ b
    · rw [if_pos h, List.count_cons, comM_count z a (b.erase t), List.count_cons, List.count_erase]
      by_cases e : t = z
      · subst e
        have : 0 < b.count t := List.count_pos_iff.2 h
        simp; omega
      · have e1 : (t == z) = false := by simpa using e
        simp [e1]
    · rw [if_neg h, comM_count z a b, List.count_cons]
      by_cases e : t = z
      · subst e
        rw [List.count_eq_zero.2 h]; simp
      · have e1 : (t == z) = false := by simpa using e
        simp [e1]
theorem remM_mem {z : α} {a b : List α} : z ∈ remM a b ↔ b.count z < a.count z := by
  rw [← List.count_pos_iff, remM_count]; omega
theorem perm_com (a b : List α) : (comM a b ++ remM a b).Perm a := List.perm_iff_count.2 fun z => by
  rw [List.count_append, comM_count, remM_count]; omega
theorem perm_com' (a b : List α) : (comM a b ++ remM b a).Perm b := List.perm_iff_count.2 fun z => by
  rw [List.count_append, comM_count, remM_count]; omega
theorem gtMs_rem {a b : List α} : gtMs R a b ↔ remM a b ≠ [] ∧ ∀ y ∈ remM b a, ∃ x ∈ remM a b, R x y := by
  unfold gtMs
  simp only [remM_mem]
  refine and_congr ?_ Iff.rfl
  constructor
  · rintro ⟨x, hx⟩ e
    have := remM_mem.2 hx
    rw [e] at this; simp at this
  · intro h
    obtain ⟨x, hx⟩ := List.exists_mem_of_ne_nil _ h
    exact ⟨x, remM_mem.1 hx⟩

/-- An order of elements that a map keeps is kept by the map of multisets. -/
theorem gtMs_map {β : Type} [DecidableEq β] {S : β → β → Prop} (σ : α → β) (hi : ∀ x, ¬ S x x) (ht : ∀ x y z, S x y → S y z → S x z) {a b : List α} (hσ : ∀ x ∈ a, ∀ y ∈ b, R x y → S (σ x) (σ y)) (h : gtMs R a b) : gtMs S (a.map σ) (b.map σ) := by
  obtain ⟨h1, h2⟩ := gtMs_rem.1 h
  have hg := gtMs_of (R := S) (Z := (comM a b).map σ) (X := (remM a b).map σ) (Y := (remM b a).map σ) hi ht (by simpa using h1) (fun y hy => by
    obtain ⟨y0, hy0, rfl⟩ := List.mem_map.1 hy
    obtain ⟨x0, hx0, hr⟩ := h2 y0 hy0
    have ha : x0 ∈ a := List.count_pos_iff.1 (by have := remM_mem.1 hx0; omega)
    have hb : y0 ∈ b := List.count_pos_iff.1 (by have := remM_mem.1 hy0; omega)
    exact ⟨σ x0, List.mem_map.2 ⟨x0, hx0, rfl⟩, hσ x0 ha y0 hb hr⟩)
  rw [← List.map_append, ← List.map_append] at hg
  exact (gtMs_congr (fun x => ((perm_com a b).map σ).count_eq x) (fun x => ((perm_com' a b).map σ).count_eq x)).1 hg

/-- Where of two elements one is always greater, of two rows one is, or they have the same elements. -/
theorem gtMs_total (hi : ∀ x, ¬ R x x) (ht : ∀ x y z, R x y → R y z → R x z) {a b : List α} (hT : ∀ x ∈ a ++ b, ∀ y ∈ a ++ b, x = y ∨ R x y ∨ R y x) : gtMs R a b ∨ gtMs R b a ∨ ∀ x, a.count x = b.count x := by
  by_cases he : ∀ x, a.count x = b.count x
  · exact .inr (.inr he)
  · have hmem : ∀ x, a.count x ≠ b.count x → x ∈ a ++ b := fun x hx => by
      have : 0 < a.count x ∨ 0 < b.count x := by omega
      simp only [List.mem_append]
      rcases this with h | h
      · exact .inl (List.count_pos_iff.1 h)
      · exact .inr (List.count_pos_iff.1 h)
    obtain ⟨x, hx⟩ := Classical.not_forall.1 he
    obtain ⟨z, hz, hd, hm⟩ := exists_max hi ht (fun x => a.count x ≠ b.count x) (a ++ b) ⟨x, hmem x hx, hx⟩
    have hbig : ∀ y, a.count y ≠ b.count y → y ≠ z → R z y := fun y hy hne => by
      rcases hT z hz y (hmem y hy) with e | h | h
      · exact absurd e.symm hne
      · exact h
      · exact absurd h (hm y (hmem y hy) hy)
    by_cases q : b.count z < a.count z
    · exact .inl ⟨⟨z, q⟩, fun y hy => ⟨z, q, hbig y (by omega) (fun e => by subst e; omega)⟩⟩
    · exact .inr (.inl ⟨⟨z, by omega⟩, fun y hy => ⟨z, by omega, hbig y (by omega) (fun e => by subst e; omega)⟩⟩)
end

end Go.Proofs.YtleohdddaadbeaaGreat

/- Rows of terms, and sides of literals, as multisets. -/
namespace Go.Proofs.YtleohdddaadbeaaGreat
set_option linter.unusedVariables false
set_option linter.unusedSimpArgs false
open Go.RowKit

def GtK (g : Sg) (a b : T) : Prop := gtK g a b = true
theorem GtK.irrefl (g : Sg) (a : T) : ¬ GtK g a a := fun h => by unfold GtK at h; rw [gtK_self] at h; cases h
theorem GtK.trans {g : Sg} {a b c : T} (h1 : GtK g a b) (h2 : GtK g b c) : GtK g a c := gtK_trans a.size a b c (Nat.le_refl _) h1 h2
theorem diffM_rem : ∀ (a b : List T), diffM a b = remM a b
  | [], b => by simp [diffM, remM]
  | t :: a, b => by
    rw [diffM, remM]
    by_cases h : t ∈ b
    · rw [if_pos h, if_pos h, diffM_rem a (b.erase t)]
    · rw [if_neg h, if_neg h, diffM_rem a b]
theorem overT_iff {g : Sg} {a b : List T} : overT g (diffM a b) (diffM b a) = true ↔ gtMs (GtK g) a b := by
  rw [gtMs_rem, diffM_rem, diffM_rem]
  simp only [overT, Bool.and_eq_true, decide_eq_true_eq, List.all_eq_true, List.any_eq_true, GtK]
theorem rowsT_zero_iff {g : Sg} {a b : List T} : rowsT g a b = 0 ↔ ∀ x, a.count x = b.count x := by
  have h0 : (diffM a b = [] ∧ diffM b a = []) ↔ ∀ x, a.count x = b.count x := by
    constructor
    · rintro ⟨h1, h2⟩ x
      have e1 := diffM_count x a b
      have e2 := diffM_count x b a
      rw [h1] at e1
      rw [h2] at e2
      simp at e1 e2
      omega
    · intro h
      exact ⟨List.eq_nil_iff_forall_not_mem.2 fun z hz => by have := diffM_mem.1 hz; have := h z; omega, List.eq_nil_iff_forall_not_mem.2 fun z hz => by have := diffM_mem.1 hz; have := h z; omega⟩
  rw [← h0]
  unfold rowsT
  by_cases q : diffM a b = [] ∧ diffM b a = []
  · rw [if_pos q]; exact ⟨fun _ => q, fun _ => rfl⟩
  · rw [if_neg q]
    constructor
    · intro h
      split at h
      · cases h
      · split at h <;> cases h
    · intro h; exact absurd h q
theorem rowsT_more_iff {g : Sg} {a b : List T} : rowsT g a b = 1 ↔ gtMs (GtK g) a b := by
  rw [← overT_iff]
  unfold rowsT
  constructor
  · intro h
    split at h
    · cases h
    · split at h
      · assumption
      · split at h <;> cases h
  · intro h
    have hn : diffM a b ≠ [] := by
      simp only [overT, Bool.and_eq_true, decide_eq_true_eq] at h
      exact h.1
    rw [if_neg (fun e => hn e.1), if_pos h]
theorem rowsT_less_iff {g : Sg} {a b : List T} : rowsT g a b = -1 ↔ gtMs (GtK g) b a := by
  rw [← overT_iff]
  unfold rowsT
  constructor
  · intro h
    split at h
    · cases h
    · split at h
      · cases h
      · split at h
        · assumption
        · cases h
  · intro h
    have hn : diffM b a ≠ [] := by
      simp only [overT, Bool.and_eq_true, decide_eq_true_eq] at h
      exact h.1
    have hno : ¬ overT g (diffM a b) (diffM b a) = true := fun h2 => gtMs_asym (GtK.irrefl g) (fun _ _ _ => GtK.trans) (overT_iff.1 h2) (overT_iff.1 h)
    rw [if_neg (fun e => hn e.2), if_neg hno, if_pos h]
theorem rowsT_trans {g : Sg} {a b c : List T} (h1 : rowsT g a b = 1) (h2 : rowsT g b c = 1) : rowsT g a c = 1 :=
  rowsT_more_iff.2 (gtMs_trans (GtK.irrefl g) (fun _ _ _ => GtK.trans) (rowsT_more_iff.1 h1) (rowsT_more_iff.1 h2))
theorem rowsT_two {g : Sg} {a b : List T} (h0 : ¬ ∀ x, a.count x = b.count x) (h1 : ¬ gtMs (GtK g) a b) (h2 : ¬ gtMs (GtK g) b a) : rowsT g a b = 2 := by
  have n0 : rowsT g a b ≠ 0 := fun e => h0 (rowsT_zero_iff.1 e)
  have n1 : rowsT g a b ≠ 1 := fun e => h1 (rowsT_more_iff.1 e)
  have n2 : rowsT g a b ≠ -1 := fun e => h2 (rowsT_less_iff.1 e)
  unfold rowsT at n0 n1 n2 ⊢
  split
  · rename_i h; rw [if_pos h] at n0; exact absurd rfl n0
  · rename_i h
    rw [if_neg h] at n1 n2
    split
    · rename_i h'; rw [if_pos h'] at n1; exact absurd rfl n1
    · rename_i h'
      rw [if_neg h'] at n2
      split
      · rename_i h''; rw [if_pos h''] at n2; exact absurd rfl n2
      · rfl

/-! ### The sides of a literal -/
def rowL (n : Bool) (l r : T) : List T := if n then [l, l, r, r] else [l, r]
def sidesT (l r l' r' : T) : Prop := (l = l' ∧ r = r') ∨ (l = r' ∧ r = l')
theorem pair_eq {l r l' r' : T} : (∀ x, [l, r].count x = [l', r'].count x) ↔ sidesT l r l' r' := by
  constructor
  · intro h
    have hl := h l
    have hr := h r
    have hl' := h l'
    simp only [List.count_cons, List.count_nil] at hl hr hl'
    by_cases e1 : l = l'
    · subst e1
      by_cases e2 : r = r'
      · exact .inl ⟨rfl, e2⟩
      · exfalso
        have e3 : ¬ r' = r := fun e => e2 e.symm
        simp [e3] at hr
    · have e1' : ¬ l' = l := fun e => e1 e.symm
      by_cases e2 : l = r'
      · subst e2
        by_cases e3 : r = l'
        · exact .inr ⟨rfl, e3⟩
        · exfalso
          have : ¬ l' = r := fun e => e3 e.symm
          simp [e1, e3] at hl'
      · exfalso
        have e2' : ¬ r' = l := fun e => e2 e.symm
        simp [e1', e2'] at hl
  · rintro (⟨rfl, rfl⟩ | ⟨rfl, rfl⟩)
    · intro x; rfl
    · intro x; simp only [List.count_cons, List.count_nil]; omega
theorem rowL_double {l r x : T} : (rowL true l r).count x = 2 * [l, r].count x := by
  simp only [rowL, if_true, List.count_cons, List.count_nil]; omega
theorem rowL_eq {n n' : Bool} {l r l' r' : T} : (∀ x, (rowL n l r).count x = (rowL n' l' r').count x) ↔ n = n' ∧ sidesT l r l' r' := by
  have hlen : (∀ x, (rowL n l r).count x = (rowL n' l' r').count x) → n = n' := fun h => by
    have := (List.perm_iff_count.2 h).length_eq
    cases n <;> cases n' <;> simp [rowL] at this ⊢
  constructor
  · intro h
    have e := hlen h
    subst e
    refine ⟨rfl, pair_eq.1 fun x => ?_⟩
    cases n with
    | false => exact h x
    | true => have := h x; rw [rowL_double, rowL_double] at this; omega
  · rintro ⟨rfl, h⟩ x
    have := pair_eq.2 h x
    cases n with
    | false => exact this
    | true => rw [rowL_double, rowL_double, this]
theorem rowL_neg {g : Sg} {l r l' r' : T} (h : sidesT l r l' r') : gtMs (GtK g) (rowL true l r) (rowL false l' r') := by
  have hp := pair_eq.2 h
  have hf : ∀ x, (rowL false l' r').count x = [l, r].count x := fun x => (hp x).symm
  constructor
  · refine ⟨l, ?_⟩
    rw [rowL_double, hf]
    have : 0 < [l, r].count l := List.count_pos_iff.2 (by simp)
    omega
  · intro y hy
    rw [rowL_double, hf] at hy
    omega

end Go.Proofs.YtleohdddaadbeaaGreat

/- Contract of the reference's Var. -/
namespace Go.Proofs.YtleohdddaadbeaaGreat
set_option linter.unusedVariables false
set_option linter.unusedSimpArgs false
open Go.RowKit

/-- The reference's Var, of any number. -/
theorem refVar_any (v : Int) (w : World) (h1 : -9223372036854775808 ≤ v) (h2 : v ≤ 9223372036854775807) :
    Calls Tryz.prog 23 #[.int .i64 v] w fun e w' => e = .returned (tm (-1 - v) none 0 0) ∧ Below w.heap.size w w' := by
  go_enter Tryz.func23, Tryz.ntmps23
  go_wp2
  exact bodyPost_ret (v := tm (-1 - v) none 0 0) (by simp [results, Tryz.results23, go_sem]) rfl ⟨rfl, ((Below.refl _ _).alloc (Nat.le_refl _) _)⟩


end Go.Proofs.YtleohdddaadbeaaGreat

/- Substitutions as lists, what they put for variables, and what it means that one lies in memory. -/
namespace Go.Proofs.YtleohdddaadbeaaGreat
set_option linter.unusedVariables false
set_option linter.unusedSimpArgs false
open Go.RowKit

abbrev Sb := List (Int × T)
def vt (v : Int) : T := .node (-1 - v) []
def ofS : Sb → Int → T
  | [], v => vt v
  | (x, t) :: s, v => if x = v then t else ofS s v
mutual
def T.sub (f : Int → T) : T → T
  | .node h ts => if h < 0 then f (-1 - h) else .node h (T.subl f ts)
def T.subl (f : Int → T) : List T → List T
  | [] => []
  | t :: ts => t.sub f :: T.subl f ts
end
theorem T.subl_map (f : Int → T) (ts : List T) : T.subl f ts = ts.map (T.sub f) := by
  induction ts with
  | nil => rfl
  | cons t ts ih => simp [T.subl, ih]
theorem T.sub_eq (f : Int → T) (t : T) : t.sub f = if t.head < 0 then f (-1 - t.head) else .node t.head (t.args.map (T.sub f)) := by
  cases t; rw [T.sub, T.subl_map]; rfl
theorem T.sub_neg {f : Int → T} {t : T} (h : t.head < 0) : t.sub f = f (-1 - t.head) := by rw [T.sub_eq, if_pos h]
theorem T.sub_pos {f : Int → T} {t : T} (h : ¬ t.head < 0) : t.sub f = .node t.head (t.args.map (T.sub f)) := by rw [T.sub_eq, if_neg h]

/-- Is a list of bindings right, from the variable l on? -/
def rightS (l : Int) : Sb → Bool
  | [] => true
  | (x, t) :: s => (decide (l ≤ x) && decide (x ≤ 255) && decide (t.check = 0) && decide (t.head ≠ -1 - x)) && rightS (x + 1) s

/-! ### A list of bindings in memory -/
def IsB (n₀ : Nat) (W : World) (x : Int × T) (b o : Nat) : Prop := (Lit.int .i64 x.1).wf = true ∧ W.cell? ⟨b, o, none⟩ = some (.int .i64 x.1) ∧ IsT n₀ W x.2 b (o + 1)
def IsBs (n₀ : Nat) (W : World) (s : Sb) (a : Option Addr) (c : Nat) : Prop :=
  s.length ≤ c ∧ c ≤ maxLen ∧ (s = [] ∨ ∃ b o, a = some ⟨b, o, none⟩ ∧ b < n₀ ∧ ∀ (j : Nat) (x : Int × T), s[j]? = some x → IsB n₀ W x b (o + j * 3))
theorem IsBs.below {n₀ : Nat} {w w' : World} {s : Sb} {a : Option Addr} {c : Nat} (h : IsBs n₀ w s a c) (hb : Below n₀ w w') : IsBs n₀ w' s a c := by
  obtain ⟨h1, h2, h3⟩ := h
  refine ⟨h1, h2, ?_⟩
  rcases h3 with h3 | ⟨b, o, h4, h5, h6⟩
  · exact .inl h3
  · refine .inr ⟨b, o, h4, h5, fun j x hx => ?_⟩
    obtain ⟨p1, p2, p3⟩ := h6 j x hx
    exact ⟨p1, (hb.cell (p := ⟨b, _, none⟩) h5).trans p2, p3.below hb h5⟩
theorem IsBs.mono {n₀ n₁ : Nat} {w : World} {s : Sb} {a : Option Addr} {c : Nat} (h : IsBs n₀ w s a c) (hn : n₀ ≤ n₁) : IsBs n₁ w s a c := by
  obtain ⟨h1, h2, h3⟩ := h
  refine ⟨h1, h2, ?_⟩
  rcases h3 with h3 | ⟨b, o, h4, h5, h6⟩
  · exact .inl h3
  · exact .inr ⟨b, o, h4, by omega, fun j x hx => ⟨(h6 j x hx).1, (h6 j x hx).2.1, (h6 j x hx).2.2.mono hn⟩⟩
theorem IsBs.nil (n₀ : Nat) (w : World) (a : Option Addr) {c : Nat} (hc : c ≤ maxLen) : IsBs n₀ w [] a c := ⟨by simp, hc, .inl rfl⟩
theorem later_bs {W : World} {s : Sb} {a : Option Addr} {c : Nat} (h : IsBs W.heap.size W s a c) : Later (fun X => IsBs X.heap.size X s a c) W := fun X hX => (h.below hX).mono hX.size
/-- The element i of a list of bindings: its three cells. -/
theorem IsBs.elem {n₀ : Nat} {w : World} {s : Sb} {a : Option Addr} {c : Nat} (h : IsBs n₀ w s a c) {i : Nat} (hi : i < s.length) :
    ∃ (b o : Nat) (v : Int) (t : T) (a' : Option Addr) (c' : Nat), a = some ⟨b, o, none⟩ ∧ b < n₀ ∧ s[i]? = some (v, t) ∧ (Lit.int .i64 v).wf = true ∧ (Lit.int .i64 t.head).wf = true ∧ w.cell? ⟨b, o + i * 3, none⟩ = some (.int .i64 v) ∧ w.cell? ⟨b, o + i * 3 + 1, none⟩ = some (.int .i64 t.head) ∧
      w.cell? ⟨b, o + i * 3 + 2, none⟩ = some (.slice a' t.args.length c') ∧ IsArgs n₀ w t.args a' c' := by
  obtain ⟨_, _, h3⟩ := h
  rcases h3 with rfl | ⟨b, o, rfl, h4, h5⟩
  · simp at hi
  · obtain ⟨p0, p1, p2⟩ := h5 i _ (List.getElem?_eq_getElem hi)
    obtain ⟨q0, q1, a', c', q2, q3⟩ := isT_iff.1 p2
    exact ⟨b, o, s[i].1, s[i].2, a', c', rfl, h4, List.getElem?_eq_getElem hi, p0, q0, p1, q1, q2, q3⟩

theorem rightS_step {l : Int} {s : Sb} {k : Nat} {x : Int} {t : T} (h : s[k]? = some (x, t)) : rightS l (s.drop k) = ((decide (l ≤ x) && decide (x ≤ 255) && decide (t.check = 0) && decide (t.head ≠ -1 - x)) && rightS (x + 1) (s.drop (k + 1))) := by
  obtain ⟨hk, e⟩ := List.getElem?_eq_some_iff.1 h
  rw [List.drop_eq_getElem_cons hk, e, rightS]
theorem ofS_step {s : Sb} {k : Nat} {x : Int} {t : T} (v : Int) (h : s[k]? = some (x, t)) : ofS (s.drop k) v = if x = v then t else ofS (s.drop (k + 1)) v := by
  obtain ⟨hk, e⟩ := List.getElem?_eq_some_iff.1 h
  rw [List.drop_eq_getElem_cons hk, e, ofS]

end Go.Proofs.YtleohdddaadbeaaGreat
