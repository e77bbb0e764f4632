/- QBf: joined of Kb3, Mul, Kb5, Rv0, Sb0, Kb2, Kb6, Kb4. -/
import Derived.Test.YtpncmdlbmnmahaaGreatQBe
import Derived.Lib.Hide
import Derived.Test.YtpncmdlbmnmahaaGreatQBb
import Derived.Test.YtpncmdlbmnmahaaGreatQBc
/- Rows of terms compared as multisets, in plain words. -/
namespace Go.Proofs.YtpncmdlbmnmahaaGreat
set_option linter.unusedVariables false
set_option linter.unusedSimpArgs false
open Go.RowKit
instance instDecT : DecidableEq T := fun a b => decidable_of_iff _ (T.same_iff a b)
/-- A row without what another one has, as often as it does. -/
def diffM : List T → List T → List T
  | [], _ => []
  | t :: a, b => if t ∈ b then diffM a (b.erase t) else t :: diffM a b
theorem diffM_count (z : T) : ∀ (a b : List T), (diffM a b).count z = a.count z - b.count z
  | [], b => by simp [diffM]
  | t :: a, b => by
    rw [diffM]
    by_cases h : t ∈ b
    · rw [if_pos h, diffM_count z a (b.erase t), List.count_cons, List.count_erase]
      by_cases e : t = z
      · subst e
        have : 0 < b.count t := List.count_pos_iff.2 h
        simp; omega
      · have e1 : (t == z) = false := by simpa using e
        simp [e1]
    · rw [if_neg h, List.count_cons, diffM_count z a b, List.count_cons]
      by_cases e : t = z
      · subst e
        rw [List.count_eq_zero.2 h]; simp
      · have e1 : (t == z) = false := by simpa using e
        simp [e1]
theorem diffM_mem {z : T} {a b : List T} : z ∈ diffM a b ↔ b.count z < a.count z := by
  rw [← List.count_pos_iff, diffM_count]; omega
def overT (g : Sg) (x y : List T) : Bool := decide (x ≠ []) && y.all fun u => x.any fun t => gtK g t u
theorem overT_congr {g : Sg} {x y x' y' : List T} (h1 : ∀ z, z ∈ x ↔ z ∈ x') (h2 : ∀ z, z ∈ y ↔ z ∈ y') : overT g x y = overT g x' y' := by
  rw [Bool.eq_iff_iff]
  have hn : x = [] ↔ x' = [] := by
    simp only [List.eq_nil_iff_forall_not_mem, h1]
  simp only [overT, Bool.and_eq_true, decide_eq_true_eq, List.all_eq_true, List.any_eq_true, ne_eq, hn, h2]
  simp only [h1]
def rowsT (g : Sg) (a b : List T) : Int := if diffM a b = [] ∧ diffM b a = [] then 0 else if overT g (diffM a b) (diffM b a) then 1 else if overT g (diffM b a) (diffM a b) then -1 else 2
end Go.Proofs.YtpncmdlbmnmahaaGreat

/- Multisets compared by a strict order of their elements: plain facts, for any type. -/
namespace Go.Proofs.YtpncmdlbmnmahaaGreat
set_option linter.unusedVariables false
set_option linter.unusedSimpArgs false
set_option linter.unusedSectionVars false
section
variable {α : Type} [DecidableEq α] {R : α → α → Prop}
/-- a is greater than b: where b has more of y, a has more of some x that is greater than y; and a has more of something. -/
def gtMs (R : α → α → Prop) (a b : List α) : Prop := (∃ x, b.count x < a.count x) ∧ ∀ y, a.count y < b.count y → ∃ x, b.count x < a.count x ∧ R x y
/-- Of some that meet a condition one is greatest, in that none that meets it is greater. -/
theorem exists_max (hi : ∀ x, ¬ R x x) (ht : ∀ x y z, R x y → R y z → R x z) (p : α → Prop) : ∀ (l : List α), (∃ x ∈ l, p x) → ∃ x ∈ l, p x ∧ ∀ y ∈ l, p y → ¬ R y x
  | [], h => by obtain ⟨x, hx, _⟩ := h; simp at hx
  | a :: l, h => by
    by_cases hl : ∃ x ∈ l, p x
    · obtain ⟨x, hx, hp, hm⟩ := exists_max hi ht p l hl
      by_cases q : p a ∧ R a x
      · refine ⟨a, List.mem_cons_self .., q.1, fun y hy hpy hr => ?_⟩
        rcases List.mem_cons.1 hy with rfl | hy
        · exact hi _ hr
        · exact hm y hy hpy (ht _ _ _ hr q.2)
      · refine ⟨x, List.mem_cons_of_mem _ hx, hp, fun y hy hpy hr => ?_⟩
        rcases List.mem_cons.1 hy with rfl | hy
        · exact q ⟨hpy, hr⟩
        · exact hm y hy hpy hr
    · obtain ⟨x, hx, hp⟩ := h
      rcases List.mem_cons.1 hx with rfl | hx
      · refine ⟨x, List.mem_cons_self .., hp, fun y hy hpy hr => ?_⟩
        rcases List.mem_cons.1 hy with rfl | hy
        · exact hi _ hr
        · exact hl ⟨y, hy, hpy⟩
      · exact absurd ⟨x, hx, hp⟩ hl
theorem gtMs_irrefl (a : List α) : ¬ gtMs R a a := fun ⟨⟨x, hx⟩, _⟩ => by omega
theorem gtMs_congr {a b a' b' : List α} (ha : ∀ x, a.count x = a'.count x) (hb : ∀ x, b.count x = b'.count x) : gtMs R a b ↔ gtMs R a' b' := by
  unfold gtMs
  simp only [ha, hb]
theorem gtMs_trans (hi : ∀ x, ¬ R x x) (ht : ∀ x y z, R x y → R y z → R x z) {a b c : List α} (h1 : gtMs R a b) (h2 : gtMs R b c) : gtMs R a c := by
  obtain ⟨⟨x0, hx0⟩, d1⟩ := h1
  obtain ⟨_, d2⟩ := h2
  -- among those that differ, a greatest one has more in a than in c
  have key : ∀ (p : α → Prop), (∀ x y, p x → R y x → p y) → (∃ x, p x ∧ (a.count x ≠ b.count x ∨ b.count x ≠ c.count x)) → ∃ z, p z ∧ c.count z < a.count z := by
    intro p hup hex
    obtain ⟨x, hpx, hd⟩ := hex
    have hl : ∃ x ∈ a ++ b ++ c, p x ∧ (a.count x ≠ b.count x ∨ b.count x ≠ c.count x) := by
      refine ⟨x, ?_, hpx, hd⟩
      have : 0 < a.count x ∨ 0 < b.count x ∨ 0 < c.count x := by omega
      simp only [List.mem_append]
      rcases this with h | h | h
      · exact .inl (.inl (List.count_pos_iff.1 h))
      · exact .inl (.inr (List.count_pos_iff.1 h))
      · exact .inr (List.count_pos_iff.1 h)
    obtain ⟨z, _, ⟨hpz, hdz⟩, hm⟩ := exists_max hi ht (fun x => p x ∧ (a.count x ≠ b.count x ∨ b.count x ≠ c.count x)) (a ++ b ++ c) hl
    have none : ∀ y, R y z → a.count y = b.count y ∧ b.count y = c.count y := by
      intro y hy
      by_cases e : a.count y ≠ b.count y ∨ b.count y ≠ c.count y
      · exfalso
        have hmem : y ∈ a ++ b ++ c := by
          have : 0 < a.count y ∨ 0 < b.count y ∨ 0 < c.count y := by omega
          simp only [List.mem_append]
          rcases this with h | h | h
          · exact .inl (.inl (List.count_pos_iff.1 h))
          · exact .inl (.inr (List.count_pos_iff.1 h))
          · exact .inr (List.count_pos_iff.1 h)
        exact hm y hmem ⟨hup z y hpz hy, e⟩ hy
      · omega
    have g1 : b.count z ≤ a.count z := by
      by_cases q : a.count z < b.count z
      · obtain ⟨x, hx, hr⟩ := d1 z q
        have := (none x hr).1
        omega
      · omega
    have g2 : c.count z ≤ b.count z := by
      by_cases q : b.count z < c.count z
      · obtain ⟨x, hx, hr⟩ := d2 z q
        have := (none x hr).2
        omega
      · omega
    exact ⟨z, hpz, by omega⟩
  constructor
  · obtain ⟨z, _, hz⟩ := key (fun _ => True) (fun _ _ _ _ => trivial) ⟨x0, trivial, .inl (by omega)⟩
    exact ⟨z, hz⟩
  · intro y hy
    have : ∃ x, R x y ∧ (a.count x ≠ b.count x ∨ b.count x ≠ c.count x) := by
      by_cases q : b.count y < c.count y
      · obtain ⟨x, hx, hr⟩ := d2 y q
        exact ⟨x, hr, .inr (by omega)⟩
      · obtain ⟨x, hx, hr⟩ := d1 y (by omega)
        exact ⟨x, hr, .inl (by omega)⟩
    obtain ⟨z, hz, hc⟩ := key (fun x => R x y) (fun x z hx hz => ht _ _ _ hz hx) this
    exact ⟨z, hc, hz⟩
/-- The other way to say it: something common, and for each of the rest of b a greater one in the rest of a, which is not empty. -/
theorem gtMs_of {Z X Y : List α} (hi : ∀ x, ¬ R x x) (ht : ∀ x y z, R x y → R y z → R x z) (hX : X ≠ []) (h : ∀ y ∈ Y, ∃ x ∈ X, R x y) : gtMs R (Z ++ X) (Z ++ Y) := by
  have key : ∀ (p : α → Prop), (∀ x y, p x → R y x → p y) → (∃ x ∈ X, p x) → ∃ z, p z ∧ Y.count z < X.count z := by
    intro p hup hex
    obtain ⟨z, hz, hpz, hm⟩ := exists_max hi ht p X hex
    refine ⟨z, hpz, ?_⟩
    have h1 : 0 < X.count z := List.count_pos_iff.2 hz
    by_cases q : 0 < Y.count z
    · obtain ⟨x, hx, hr⟩ := h z (List.count_pos_iff.1 q)
      exact absurd hr (hm x hx (hup z x hpz hr))
    · omega
  constructor
  · obtain ⟨x, hx⟩ := List.exists_mem_of_ne_nil X hX
    obtain ⟨z, _, hz⟩ := key (fun _ => True) (fun _ _ _ _ => trivial) ⟨x, hx, trivial⟩
    exact ⟨z, by rw [List.count_append, List.count_append]; omega⟩
  · intro y hy
    rw [List.count_append, List.count_append] at hy
    obtain ⟨x, hx, hr⟩ := h y (List.count_pos_iff.1 (by omega))
    obtain ⟨z, hz, hc⟩ := key (fun x => R x y) (fun x z hx hz => ht _ _ _ hz hx) ⟨x, hx, hr⟩
    exact ⟨z, by rw [List.count_append, List.count_append]; omega, hz⟩
/-- What two rows have in common, and what is left. -/
def comM : List α → List α → List α
  | [], _ => []
  | t :: a, b => if t ∈ b then t :: comM a (b.erase t) else comM a b
def remM : List α → List α → List α
  | [], _ => []
  | t :: a, b => if t ∈ b then remM a (b.erase t) else t :: remM a b
theorem remM_count (z : α) : ∀ (a b : List α), (remM a b).count z = a.count z - b.count z
  | [], b => by simp [remM]
  | t :: a, b => by
    rw [remM]
    by_cases h : t ∈ b
    · rw [if_pos h, remM_count z a (b.erase t), List.count_cons, List.count_erase]
      by_cases e : t = z
      · subst e
        have : 0 < b.count t := List.count_pos_iff.2 h
        simp; omega
      · have e1 : (t == z) = false := by simpa using e
        simp [e1]
    · rw [if_neg h, List.count_cons, remM_count z a b, List.count_cons]
      by_cases e : t = z
      · subst e
        rw [List.count_eq_zero.2 h]; simp
      · have e1 : (t == z) = false := by simpa using e
        simp [e1]
theorem comM_count (z : α) : ∀ (a b : List α), (comM a b).count z = min (a.count z) (b.count z)
  | [], b => by simp [comM]
  | t :: a, b => by
    rw [comM]
    by_cases h : t ∈ b
    · rw [if_pos h, List.count_cons, comM_count z a (b.erase t), List.count_cons, List.count_erase]
      by_cases e : t = z
      · subst e
        have : 0 < b.count t := List.count_pos_iff.2 h
        simp; omega
      · have e1 : (t == z) = false := by simpa using e
        simp [e1]
    · rw [if_neg h, comM_count z a b, List.count_cons]
      by_cases e : t = z
      · subst e
        rw [List.count_eq_zero.2 h]; simp
      · have e1 : (t == z) = false := by simpa using e
        simp [e1]
theorem remM_mem {z : α} {a b : List α} : z ∈ remM a b ↔ b.count z < a.count z := by
  rw [← List.count_pos_iff, remM_count]; omega
theorem perm_com (a b : List α) : (comM a b ++ remM a b).Perm a := List.perm_iff_count.2 fun z => by
  rw [List.count_append, comM_count, remM_count]; omega
theorem perm_com' (a b : List α) : (comM a b ++ remM b a).Perm b := List.perm_iff_count.2 fun z => by
  rw [List.count_append, comM_count, remM_count]; omega
theorem gtMs_rem {a b : List α} : gtMs R a b ↔ remM a b ≠ [] ∧ ∀ y ∈ remM b a, ∃ x ∈ remM a b, R x y := by
  unfold gtMs
  simp only [remM_mem]
  refine and_congr ?_ Iff.rfl
  constructor
  · rintro ⟨x, hx⟩ e
    have := remM_mem.2 hx
    rw [e] at this; simp at this
  · intro h
    obtain ⟨x, hx⟩ := List.exists_mem_of_ne_nil _ h
    exact ⟨x, remM_mem.1 hx⟩
/-- An order of elements that a map keeps is kept by the map of multisets. -/
theorem gtMs_map {β : Type} [DecidableEq β] {S : β → β → Prop} (σ : α → β) (hi : ∀ x, ¬ S x x) (ht : ∀ x y z, S x y → S y z → S x z) {a b : List α} (hσ : ∀ x ∈ a, ∀ y ∈ b, R x y → S (σ x) (σ y)) (h : gtMs R a b) : gtMs S (a.map σ) (b.map σ) := by
  obtain ⟨h1, h2⟩ := gtMs_rem.1 h
  have hg := gtMs_of (R := S) (Z := (comM a b).map σ) (X := (remM a b).map σ) (Y := (remM b a).map σ) hi ht (by simpa using h1) (fun y hy => by
    obtain ⟨y0, hy0, rfl⟩ := List.mem_map.1 hy
    obtain ⟨x0, hx0, hr⟩ := h2 y0 hy0
    have ha : x0 ∈ a := List.count_pos_iff.1 (by have := remM_mem.1 hx0; omega)
    have hb : y0 ∈ b := List.count_pos_iff.1 (by have := remM_mem.1 hy0; omega)
    exact ⟨σ x0, List.mem_map.2 ⟨x0, hx0, rfl⟩, hσ x0 ha y0 hb hr⟩)
  rw [← List.map_append, ← List.map_append] at hg
  exact (gtMs_congr (fun x => ((perm_com a b).map σ).count_eq x) (fun x => ((perm_com' a b).map σ).count_eq x)).1 hg
end
end Go.Proofs.YtpncmdlbmnmahaaGreat

/- Rows of terms, and sides of literals, as multisets. -/
namespace Go.Proofs.YtpncmdlbmnmahaaGreat
set_option linter.unusedVariables false
set_option linter.unusedSimpArgs false
open Go.RowKit
def GtK (g : Sg) (a b : T) : Prop := gtK g a b = true
theorem GtK.irrefl (g : Sg) (a : T) : ¬ GtK g a a := fun h => by unfold GtK at h; rw [gtK_self] at h; cases h
theorem GtK.trans {g : Sg} {a b c : T} (h1 : GtK g a b) (h2 : GtK g b c) : GtK g a c := gtK_trans a.size a b c (Nat.le_refl _) h1 h2
theorem diffM_rem : ∀ (a b : List T), diffM a b = remM a b
  | [], b => by simp [diffM, remM]
  | t :: a, b => by
    rw [diffM, remM]
    by_cases h : t ∈ b
    · rw [if_pos h, if_pos h, diffM_rem a (b.erase t)]
    · rw [if_neg h, if_neg h, diffM_rem a b]
theorem overT_iff {g : Sg} {a b : List T} : overT g (diffM a b) (diffM b a) = true ↔ gtMs (GtK g) a b := by
  rw [gtMs_rem, diffM_rem, diffM_rem]
  simp only [overT, Bool.and_eq_true, decide_eq_true_eq, List.all_eq_true, List.any_eq_true, GtK]
theorem rowsT_more_iff {g : Sg} {a b : List T} : rowsT g a b = 1 ↔ gtMs (GtK g) a b := by
  rw [← overT_iff]
  unfold rowsT
  constructor
  · intro h
    split at h
    · cases h
    · split at h
      · assumption
      · split at h <;> cases h
  · intro h
    have hn : diffM a b ≠ [] := by
      simp only [overT, Bool.and_eq_true, decide_eq_true_eq] at h
      exact h.1
    rw [if_neg (fun e => hn e.1), if_pos h]
/-! ### The sides of a literal -/
def rowL (n : Bool) (l r : T) : List T := if n then [l, l, r, r] else [l, r]
def sidesT (l r l' r' : T) : Prop := (l = l' ∧ r = r') ∨ (l = r' ∧ r = l')
theorem pair_eq {l r l' r' : T} : (∀ x, [l, r].count x = [l', r'].count x) ↔ sidesT l r l' r' := by
  constructor
  · intro h
    have hl := h l
    have hr := h r
    have hl' := h l'
    simp only [List.count_cons, List.count_nil] at hl hr hl'
    by_cases e1 : l = l'
    · subst e1
      by_cases e2 : r = r'
      · exact .inl ⟨rfl, e2⟩
      · exfalso
        have e3 : ¬ r' = r := fun e => e2 e.symm
        simp [e3] at hr
    · have e1' : ¬ l' = l := fun e => e1 e.symm
      by_cases e2 : l = r'
      · subst e2
        by_cases e3 : r = l'
        · exact .inr ⟨rfl, e3⟩
        · exfalso
          have : ¬ l' = r := fun e => e3 e.symm
          simp [e1, e3] at hl'
      · exfalso
        have e2' : ¬ r' = l := fun e => e2 e.symm
        simp [e1', e2'] at hl
  · rintro (⟨rfl, rfl⟩ | ⟨rfl, rfl⟩)
    · intro x; rfl
    · intro x; simp only [List.count_cons, List.count_nil]; omega
theorem rowL_double {l r x : T} : (rowL true l r).count x = 2 * [l, r].count x := by
  simp only [rowL, if_true, List.count_cons, List.count_nil]; omega
theorem rowL_neg {g : Sg} {l r l' r' : T} (h : sidesT l r l' r') : gtMs (GtK g) (rowL true l r) (rowL false l' r') := by
  have hp := pair_eq.2 h
  have hf : ∀ x, (rowL false l' r').count x = [l, r].count x := fun x => (hp x).symm
  constructor
  · refine ⟨l, ?_⟩
    rw [rowL_double, hf]
    have : 0 < [l, r].count l := List.count_pos_iff.2 (by simp)
    omega
  · intro y hy
    rw [rowL_double, hf] at hy
    omega
end Go.Proofs.YtpncmdlbmnmahaaGreat

/- Contract of the reference's Var. -/
namespace Go.Proofs.YtpncmdlbmnmahaaGreat
set_option linter.unusedVariables false
set_option linter.unusedSimpArgs false
open Go.RowKit
/-- The reference's Var, of any number. -/
theorem refVar_any (v : Int) (w : World) (h1 : -9223372036854775808 ≤ v) (h2 : v ≤ 9223372036854775807) :
    Calls Tryz.prog 137 #[.int .i64 v] w fun e w' => e = .returned (tm (-1 - v) none 0 0) ∧ Below w.heap.size w w' := by
  go_enter Tryz.func137, Tryz.ntmps137
  go_wp2
  exact bodyPost_ret (v := tm (-1 - v) none 0 0) (by simp [results, Tryz.results137, go_sem]) rfl ⟨rfl, ((Below.refl _ _).alloc (Nat.le_refl _) _)⟩
end Go.Proofs.YtpncmdlbmnmahaaGreat

/- Substitutions as lists, what they put for variables, and what it means that one lies in memory. -/
namespace Go.Proofs.YtpncmdlbmnmahaaGreat
set_option linter.unusedVariables false
set_option linter.unusedSimpArgs false
open Go.RowKit
abbrev Sb := List (Int × T)
def vt (v : Int) : T := .node (-1 - v) []
def ofS : Sb → Int → T
  | [], v => vt v
  | (x, t) :: s, v => if x = v then t else ofS s v
mutual
def T.sub (f : Int → T) : T → T
  | .node h ts => if h < 0 then f (-1 - h) else .node h (T.subl f ts)
def T.subl (f : Int → T) : List T → List T
  | [] => []
  | t :: ts => t.sub f :: T.subl f ts
end
theorem T.subl_map (f : Int → T) (ts : List T) : T.subl f ts = ts.map (T.sub f) := by
  induction ts with
  | nil => rfl
  | cons t ts ih => simp [T.subl, ih]
theorem T.sub_eq (f : Int → T) (t : T) : t.sub f = if t.head < 0 then f (-1 - t.head) else .node t.head (t.args.map (T.sub f)) := by
  cases t; rw [T.sub, T.subl_map]; rfl
theorem T.sub_neg {f : Int → T} {t : T} (h : t.head < 0) : t.sub f = f (-1 - t.head) := by rw [T.sub_eq, if_pos h]
theorem T.sub_pos {f : Int → T} {t : T} (h : ¬ t.head < 0) : t.sub f = .node t.head (t.args.map (T.sub f)) := by rw [T.sub_eq, if_neg h]
/-- Is a list of bindings right, from the variable l on? -/
def rightS (l : Int) : Sb → Bool
  | [] => true
  | (x, t) :: s => (decide (l ≤ x) && decide (x ≤ 255) && decide (t.check = 0) && decide (t.head ≠ -1 - x)) && rightS (x + 1) s
/-! ### A list of bindings in memory -/
def IsB (n₀ : Nat) (W : World) (x : Int × T) (b o : Nat) : Prop := (Lit.int .i64 x.1).wf = true ∧ W.cell? ⟨b, o, none⟩ = some (.int .i64 x.1) ∧ IsT n₀ W x.2 b (o + 1)
def IsBs (n₀ : Nat) (W : World) (s : Sb) (a : Option Addr) (c : Nat) : Prop :=
  s.length ≤ c ∧ c ≤ maxLen ∧ (s = [] ∨ ∃ b o, a = some ⟨b, o, none⟩ ∧ b < n₀ ∧ ∀ (j : Nat) (x : Int × T), s[j]? = some x → IsB n₀ W x b (o + j * 3))
theorem IsBs.below {n₀ : Nat} {w w' : World} {s : Sb} {a : Option Addr} {c : Nat} (h : IsBs n₀ w s a c) (hb : Below n₀ w w') : IsBs n₀ w' s a c := by
  obtain ⟨h1, h2, h3⟩ := h
  refine ⟨h1, h2, ?_⟩
  rcases h3 with h3 | ⟨b, o, h4, h5, h6⟩
  · exact .inl h3
  · refine .inr ⟨b, o, h4, h5, fun j x hx => ?_⟩
    obtain ⟨p1, p2, p3⟩ := h6 j x hx
    exact ⟨p1, (hb.cell (p := ⟨b, _, none⟩) h5).trans p2, p3.below hb h5⟩
theorem IsBs.mono {n₀ n₁ : Nat} {w : World} {s : Sb} {a : Option Addr} {c : Nat} (h : IsBs n₀ w s a c) (hn : n₀ ≤ n₁) : IsBs n₁ w s a c := by
  obtain ⟨h1, h2, h3⟩ := h
  refine ⟨h1, h2, ?_⟩
  rcases h3 with h3 | ⟨b, o, h4, h5, h6⟩
  · exact .inl h3
  · exact .inr ⟨b, o, h4, by omega, fun j x hx => ⟨(h6 j x hx).1, (h6 j x hx).2.1, (h6 j x hx).2.2.mono hn⟩⟩
theorem IsBs.nil (n₀ : Nat) (w : World) (a : Option Addr) {c : Nat} (hc : c ≤ maxLen) : IsBs n₀ w [] a c := ⟨by simp, hc, .inl rfl⟩
theorem later_bs {W : World} {s : Sb} {a : Option Addr} {c : Nat} (h : IsBs W.heap.size W s a c) : Later (fun X => IsBs X.heap.size X s a c) W := fun X hX => (h.below hX).mono hX.size
/-- The element i of a list of bindings: its three cells. -/
theorem IsBs.elem {n₀ : Nat} {w : World} {s : Sb} {a : Option Addr} {c : Nat} (h : IsBs n₀ w s a c) {i : Nat} (hi : i < s.length) :
    ∃ (b o : Nat) (v : Int) (t : T) (a' : Option Addr) (c' : Nat), a = some ⟨b, o, none⟩ ∧ b < n₀ ∧ s[i]? = some (v, t) ∧ (Lit.int .i64 v).wf = true ∧ (Lit.int .i64 t.head).wf = true ∧ w.cell? ⟨b, o + i * 3, none⟩ = some (.int .i64 v) ∧ w.cell? ⟨b, o + i * 3 + 1, none⟩ = some (.int .i64 t.head) ∧
      w.cell? ⟨b, o + i * 3 + 2, none⟩ = some (.slice a' t.args.length c') ∧ IsArgs n₀ w t.args a' c' := by
  obtain ⟨_, _, h3⟩ := h
  rcases h3 with rfl | ⟨b, o, rfl, h4, h5⟩
  · simp at hi
  · obtain ⟨p0, p1, p2⟩ := h5 i _ (List.getElem?_eq_getElem hi)
    obtain ⟨q0, q1, a', c', q2, q3⟩ := isT_iff.1 p2
    exact ⟨b, o, s[i].1, s[i].2, a', c', rfl, h4, List.getElem?_eq_getElem hi, p0, q0, p1, q1, q2, q3⟩
theorem rightS_step {l : Int} {s : Sb} {k : Nat} {x : Int} {t : T} (h : s[k]? = some (x, t)) : rightS l (s.drop k) = ((decide (l ≤ x) && decide (x ≤ 255) && decide (t.check = 0) && decide (t.head ≠ -1 - x)) && rightS (x + 1) (s.drop (k + 1))) := by
  obtain ⟨hk, e⟩ := List.getElem?_eq_some_iff.1 h
  rw [List.drop_eq_getElem_cons hk, e, rightS]
theorem ofS_step {s : Sb} {k : Nat} {x : Int} {t : T} (v : Int) (h : s[k]? = some (x, t)) : ofS (s.drop k) v = if x = v then t else ofS (s.drop (k + 1)) v := by
  obtain ⟨hk, e⟩ := List.getElem?_eq_some_iff.1 h
  rw [List.drop_eq_getElem_cons hk, e, ofS]
end Go.Proofs.YtpncmdlbmnmahaaGreat

/- Knuth and Bendix's order: within terms, and with terms put. -/
namespace Go.Proofs.YtpncmdlbmnmahaaGreat
set_option linter.unusedVariables false
set_option linter.unusedSimpArgs false
open Go.RowKit
theorem sumA_perm (f : Int → Int) {a b : List Int} (h : a.Perm b) : sumA f a = sumA f b := by
  induction h with
  | nil => rfl
  | cons x _ ih => simp [sumA, ih]
  | swap x y l => simp [sumA]; omega
  | trans _ _ h1 h2 => rw [h1, h2]
/-! ### A term in another one -/
/-! ### Terms put for variables -/
theorem sumAL_map {f : Int → T} {ψ φ : Int → Int} {ts : List T} (h : ∀ s ∈ ts, sumA ψ (s.sub f).hds = sumA φ s.hds) : sumA ψ (T.hdsL (ts.map (T.sub f))) = sumA φ (T.hdsL ts) := by
  induction ts with
  | nil => rfl
  | cons t ts ih =>
    simp only [List.map_cons, T.hdsL, sumA_append]
    rw [h t (List.mem_cons_self ..), ih (fun s hs => h s (List.mem_cons_of_mem _ hs))]
/-- What a sum over the heads is, when terms are put. -/
theorem sumA_sub (f : Int → T) (ψ : Int → Int) : ∀ (N : Nat) (t : T), t.size ≤ N → bad (T.subs 1 t) = false → sumA ψ (t.sub f).hds = sumA (fun h => if h < 0 then sumA ψ (f (-1 - h)).hds else ψ h) t.hds := by
  intro N
  induction N with
  | zero => intro t ht; have := T.size_pos t; omega
  | succ N ih =>
    intro t ht hb
    by_cases q : t.head < 0
    · rw [T.sub_neg q, T.hds_eq t, good_var hb q]
      simp [sumA, T.hdsL, q]
    · rw [T.sub_pos q, T.hds_eq t, T.hds]
      simp only [sumA, q, if_false]
      rw [sumAL_map (fun s hs => by
        obtain ⟨k, hk⟩ := List.getElem?_of_mem hs
        exact ih s (by have := size_mem hs; have := T.size_eq t; omega) (good_arg hb hk))]
def ind (z h : Int) : Int := if h = z then 1 else 0
theorem count_sum (z : Int) : ∀ (L : List Int), ((L.count z : Nat) : Int) = sumA (ind z) L
  | [] => by simp [sumA]
  | h :: L => by
    rw [List.count_cons]
    simp only [sumA, ind, ← count_sum z L]
    by_cases e : h = z
    · subst e; simp; omega
    · have : (h == z) = false := by simpa using e
      simp [this, e]
theorem sumA_mono {φ : Int → Int} (h0 : ∀ h, 0 ≤ h → φ h = 0) : ∀ (B A : List Int), (∀ h ∈ A, h < 0 → 0 ≤ φ h) → (∀ h, h < 0 → B.count h ≤ A.count h) → sumA φ B ≤ sumA φ A
  | [], A, h1, _ => by
    simp only [sumA]
    exact sumA_nonneg (fun h hm => by
      by_cases q : h < 0
      · exact h1 h hm q
      · rw [h0 h (by omega)]; exact Int.le_refl _)
  | h :: B, A, h1, ho => by
    simp only [sumA]
    by_cases q : h < 0
    · have hm : h ∈ A := List.count_pos_iff.1 (by have := ho h q; rw [List.count_cons_self] at this; omega)
      have hp := List.perm_cons_erase hm
      rw [sumA_perm φ hp]
      simp only [sumA]
      have := sumA_mono h0 B (A.erase h) (fun z hz => h1 z (List.mem_of_mem_erase hz)) (fun z hz => by
        have h2 := ho z hz
        have h3 := hp.count_eq z
        rw [List.count_cons] at h2 h3
        omega)
      omega
    · rw [h0 h (by omega)]
      have := sumA_mono h0 B A h1 (fun z hz => by
        have h2 := ho z hz
        rw [List.count_cons] at h2
        omega)
      omega
theorem oft_sub {f : Int → T} {a b : T} (ha : bad (T.subs 1 a) = false) (hb : bad (T.subs 1 b) = false) (h : Oft a b) : Oft (a.sub f) (b.sub f) := by
  intro z hz
  have e1 := sumA_sub f (ind z) a.size a (Nat.le_refl _) ha
  have e2 := sumA_sub f (ind z) b.size b (Nat.le_refl _) hb
  rw [← count_sum] at e1 e2
  have := sumA_mono (φ := fun h => if h < 0 then sumA (ind z) (f (-1 - h)).hds else ind z h) (fun h hh => by
    simp only [show ¬ h < 0 from by omega, if_false, ind, show ¬ h = z from by omega]) b.hds a.hds (fun h _ hh => by
    simp only [hh, if_true]; rw [← count_sum]; exact Int.natCast_nonneg _) h
  omega
theorem wt_sub {g : Sg} {f : Int → T} {t : T} (hb : bad (T.subs 1 t) = false) : wtT g (t.sub f) = wtT g t + sumA (fun h => if h < 0 then wtT g (f (-1 - h)) - 1 else 0) t.hds := by
  rw [← sumA_hds g (t.sub f), sumA_sub f (wo g) t.size t (Nat.le_refl _) hb, ← sumA_hds g t]
  generalize t.hds = L
  induction L with
  | nil => simp [sumA]
  | cons h L ih =>
    simp only [sumA, ih]
    by_cases q : h < 0
    · simp only [q, if_true, sumA_hds, wo]; omega
    · simp only [q, if_false]; omega
theorem gtL_map {g : Sg} {f : Int → T} : ∀ {ts us : List T}, (∀ t ∈ ts, ∀ u ∈ us, gtK g t u = true → gtK g (t.sub f) (u.sub f) = true) → gtL g ts us = true → gtL g (ts.map (T.sub f)) (us.map (T.sub f)) = true
  | [], us, _, h => by simp [gtL] at h
  | t :: ts, [], _, h => by simp [gtL] at h
  | t :: ts, u :: us, hT, h => by
    rw [gtL] at h
    simp only [List.map_cons]
    rw [gtL]
    by_cases e : t = u
    · subst e
      rw [T.same_self, if_pos rfl] at h ⊢
      exact gtL_map (fun s hs v hv => hT s (List.mem_cons_of_mem _ hs) v (List.mem_cons_of_mem _ hv)) h
    · rw [T.same_ne e, if_neg (by simp)] at h
      have h2 := hT t (List.mem_cons_self ..) u (List.mem_cons_self ..) h
      rw [T.same_ne (gtK_ne h2), if_neg (by simp)]
      exact h2
theorem gtK_sub {g : Sg} {f : Int → T} : ∀ (N : Nat) (a b : T), a.size ≤ N → (∀ h ∈ a.hds, h < 0 → 1 ≤ wtT g (f (-1 - h))) → bad (T.subs 1 a) = false → bad (T.subs 1 b) = false → gtK g a b = true → gtK g (a.sub f) (b.sub f) = true := by
  intro N
  induction N with
  | zero => intro a b ha; have := T.size_pos a; omega
  | succ N ih =>
    intro a b hN hf ha hb h
    obtain ⟨o, p⟩ := gtK_iff.1 h
    have w1 := wt_sub (g := g) (f := f) ha
    have w2 := wt_sub (g := g) (f := f) hb
    have hm := sumA_mono (φ := fun h => if h < 0 then wtT g (f (-1 - h)) - 1 else 0) (fun h hh => by simp only [show ¬ h < 0 from by omega, if_false]) b.hds a.hds (fun h hm hh => by simp only [hh, if_true]; have := hf h hm hh; omega) o
    have hw := gtK_wt h
    refine gtK_iff.2 ⟨oft_sub ha hb o, ?_⟩
    by_cases he : wtT g (a.sub f) = wtT g (b.sub f)
    · rcases p with p | ⟨wq, a0, b0, q⟩
      · omega
      · have ea : (a.sub f) = .node a.head (a.args.map (T.sub f)) := T.sub_pos (by omega)
        have eb : (b.sub f) = .node b.head (b.args.map (T.sub f)) := T.sub_pos (by omega)
        refine .inr ⟨he, by rw [ea]; exact a0, by rw [eb]; exact b0, ?_⟩
        rw [ea, eb]
        rcases q with q | ⟨q1, q2⟩
        · exact .inl q
        · refine .inr ⟨q1, gtL_map (fun t ht u hu hgt => ?_) q2⟩
          obtain ⟨i, hi⟩ := List.getElem?_of_mem ht
          obtain ⟨j, hj⟩ := List.getElem?_of_mem hu
          exact ih t u (by have := size_mem ht; have := T.size_eq a; omega) (fun x hx => hf x (by rw [T.hds_eq a]; exact List.mem_cons_of_mem _ (hds_mem ht x hx))) (good_arg ha hi) (good_arg hb hj) hgt
    · exact .inl (by omega)
end Go.Proofs.YtpncmdlbmnmahaaGreat

/- Literals and clauses compared, in plain words. -/
namespace Go.Proofs.YtpncmdlbmnmahaaGreat
set_option linter.unusedVariables false
set_option linter.unusedSimpArgs false
open Go.RowKit
structure Lt3 where
  neg : Bool
  l : T
  r : T
  deriving DecidableEq
def Lt3.row (x : Lt3) : List T := rowL x.neg x.l x.r
theorem sidesT.symm {l r l' r' : T} (h : sidesT l r l' r') : sidesT l' r' l r := by
  rcases h with ⟨rfl, rfl⟩ | ⟨rfl, rfl⟩
  · exact .inl ⟨rfl, rfl⟩
  · exact .inr ⟨rfl, rfl⟩
theorem sidesT.trans {l r l' r' l2 r2 : T} (h : sidesT l r l' r') (k : sidesT l' r' l2 r2) : sidesT l r l2 r2 := by
  rcases h with ⟨rfl, rfl⟩ | ⟨rfl, rfl⟩
  · exact k
  · rcases k with ⟨rfl, rfl⟩ | ⟨rfl, rfl⟩
    · exact .inr ⟨rfl, rfl⟩
    · exact .inl ⟨rfl, rfl⟩
def GtLit (g : Sg) (a b : Lt3) : Prop := gtMs (GtK g) a.row b.row
theorem GtLit.irrefl (g : Sg) (a : Lt3) : ¬ GtLit g a a := gtMs_irrefl _
theorem GtLit.trans {g : Sg} {a b c : Lt3} (h : GtLit g a b) (k : GtLit g b c) : GtLit g a c := gtMs_trans (GtK.irrefl g) (fun _ _ _ => GtK.trans) h k
theorem GtLit.neg {g : Sg} {a b : Lt3} (ha : a.neg = true) (hb : b.neg = false) (h : sidesT a.l a.r b.l b.r) : GtLit g a b := by
  unfold GtLit Lt3.row
  rw [ha, hb]
  exact rowL_neg h
theorem rowL_mem {n : Bool} {l r x : T} : x ∈ rowL n l r ↔ x = l ∨ x = r := by
  cases n <;> simp [rowL]
def Lt3.sub (f : Int → T) (a : Lt3) : Lt3 := ⟨a.neg, a.l.sub f, a.r.sub f⟩
theorem row_sub (f : Int → T) (a : Lt3) : (a.sub f).row = a.row.map (T.sub f) := by
  unfold Lt3.row Lt3.sub rowL
  cases a.neg <;> simp
/-- A greater literal stays greater when terms are put. -/
theorem GtLit.put {g : Sg} {f : Int → T} {a b : Lt3} (ha : ∀ t, t = a.l ∨ t = a.r → bad (T.subs 1 t) = false ∧ ∀ h ∈ t.hds, h < 0 → 1 ≤ wtT g (f (-1 - h))) (hb : ∀ t, t = b.l ∨ t = b.r → bad (T.subs 1 t) = false) (h : GtLit g a b) : GtLit g (a.sub f) (b.sub f) := by
  unfold GtLit at h ⊢
  rw [row_sub, row_sub]
  exact gtMs_map (T.sub f) (GtK.irrefl g) (fun _ _ _ => GtK.trans) (fun x hx y hy hr => gtK_sub x.size x y (Nat.le_refl _) (ha x (rowL_mem.1 hx)).2 (ha x (rowL_mem.1 hx)).1 (hb y (rowL_mem.1 hy)) hr) h
/-! ### Clauses -/
end Go.Proofs.YtpncmdlbmnmahaaGreat

/- Plain facts that tie the order to the way in which the document's answer reckons it. -/
namespace Go.Proofs.YtpncmdlbmnmahaaGreat
set_option linter.unusedVariables false
set_option linter.unusedSimpArgs false
open Go.RowKit
/-- Each symbol is the first of its name just if no two have one name. -/
theorem difSg_iff {g : Sg} : difSg g = true ↔ ∀ (i k : Nat) (x y : Sy), k < i → g[i]? = some x → g[k]? = some y → y.name ≠ x.name := by
  constructor
  · intro h i k x y hk hi hy e
    have hl := (List.getElem?_eq_some_iff.1 hi).1
    have h1 := List.all_eq_true.1 h i (List.mem_range.2 hl)
    rw [hi] at h1
    simp only [decide_eq_true_eq] at h1
    obtain ⟨_, _, _, h4⟩ := idxSy_get h1
    exact h4 k y hk hy e
  · intro h
    refine List.all_eq_true.2 fun i hi => ?_
    have hl := List.mem_range.1 hi
    have hx := List.getElem?_eq_getElem hl
    rw [hx]
    simp only [decide_eq_true_eq]
    exact idxSy_hit (fun j y hj hy => h i j _ y hj hx hy) hx rfl
/-- No two of the first k have one name. -/
def difK (g : Sg) (k : Nat) : Prop := ∀ (i j : Nat) (x y : Sy), i < k → j < i → g[i]? = some x → g[j]? = some y → y.name ≠ x.name
theorem difK_all {g : Sg} : difK g g.length ↔ difSg g = true := by
  rw [difSg_iff]
  constructor
  · intro h i k x y hk hi hy
    exact h i k x y (List.getElem?_eq_some_iff.1 hi).1 hk hi hy
  · intro h i j x y _ hj hi hy
    exact h i j x y hj hi hy
theorem difK_step {g : Sg} {k : Nat} {x : Sy} (hx : g[k]? = some x) : difK g (k + 1) ↔ difK g k ∧ ∀ (j : Nat) (y : Sy), j < k → g[j]? = some y → y.name ≠ x.name := by
  constructor
  · intro h
    exact ⟨fun i j a b hi hj ha hb => h i j a b (by omega) hj ha hb, fun j y hj hy => h k j x y (by omega) hj hx hy⟩
  · rintro ⟨h1, h2⟩ i j a b hi hj ha hb
    by_cases e : i = k
    · subst e
      rw [hx] at ha
      obtain rfl := Option.some.inj ha
      exact h2 j b hj hb
    · exact h1 i j a b (by omega) hj ha hb
/-! ### Heads, by loops over arguments -/
theorem hdsL_flat (ts : List T) : T.hdsL ts = (ts.map T.hds).flatten := by
  induction ts with
  | nil => rfl
  | cons t ts ih => simp [T.hdsL, ih]
theorem hds_unique {F : T → List Int} (hF : ∀ t, F t = t.head :: (t.args.map F).flatten) : ∀ (N : Nat) (t : T), t.size ≤ N → F t = t.hds := by
  intro N
  induction N with
  | zero => intro t ht; have := T.size_pos t; omega
  | succ N ih =>
    intro t ht
    rw [hF, T.hds_eq, hdsL_flat]
    congr 2
    exact List.map_congr_left fun s hs => ih s (by have := size_mem hs; have := T.size_eq t; omega)
theorem hdsL_append (a b : List T) : T.hdsL (a ++ b) = T.hdsL a ++ T.hdsL b := by simp [hdsL_flat]
theorem hdsL_take {ts : List T} {k : Nat} {s : T} (h : ts[k]? = some s) : T.hdsL (ts.take (k + 1)) = T.hdsL (ts.take k) ++ s.hds := by
  obtain ⟨hi, e⟩ := List.getElem?_eq_some_iff.1 h
  rw [List.take_succ_eq_append_getElem hi, hdsL_append, e]
  simp [T.hdsL]
theorem wtL_append (g : Sg) (a b : List T) : wtL g (a ++ b) = wtL g a + wtL g b := by
  induction a with
  | nil => simp [wtL]
  | cons t a ih => simp [wtL, ih]; omega
theorem wtL_take {g : Sg} {ts : List T} {k : Nat} {s : T} (h : ts[k]? = some s) : wtL g (ts.take (k + 1)) = wtL g (ts.take k) + wtT g s := by
  obtain ⟨hi, e⟩ := List.getElem?_eq_some_iff.1 h
  rw [List.take_succ_eq_append_getElem hi, wtL_append, e]
  simp [wtL]
theorem fitsL_take {g : Sg} {ts : List T} {k : Nat} {s : T} (h : ts[k]? = some s) : fitsL g (ts.take (k + 1)) = (fitsL g (ts.take k) && fitsT g s) := by
  obtain ⟨hi, e⟩ := List.getElem?_eq_some_iff.1 h
  rw [List.take_succ_eq_append_getElem hi, fitsL_all, fitsL_all, List.all_append, e]
  simp
theorem fitsL_bad {g : Sg} {ts : List T} {k : Nat} {s : T} (h : ts[k]? = some s) (hf : fitsT g s = false) : fitsL g ts = false := by
  rw [fitsL_all, List.all_eq_false]
  exact ⟨s, List.mem_of_getElem? h, by simp [hf]⟩
theorem predL_take {g : Sg} {ts : List T} {k : Nat} {s : T} (h : ts[k]? = some s) : predL g (ts.take (k + 1)) = (predL g (ts.take k) || predT g s) := by
  obtain ⟨hi, e⟩ := List.getElem?_eq_some_iff.1 h
  rw [List.take_succ_eq_append_getElem hi, predL_any, predL_any, List.any_append, e]
  simp
theorem predL_hit {g : Sg} {ts : List T} {k : Nat} {s : T} (h : ts[k]? = some s) (hp : predT g s = true) : predL g ts = true := by
  rw [predL_any, List.any_eq_true]
  exact ⟨s, List.mem_of_getElem? h, hp⟩
/-! ### Variables -/
def IsVars (vs : List Int) (t : T) : Prop := ∀ v, v ∈ vs ↔ ∃ x ∈ t.hds, x < 0 ∧ v = -1 - x
theorem oft_vars {a b : T} {vs : List Int} (h : IsVars vs b) : Oft a b ↔ ∀ v ∈ vs, b.hds.count (-1 - v) ≤ a.hds.count (-1 - v) := by
  constructor
  · intro o v hv
    obtain ⟨x, _, hx, rfl⟩ := (h v).1 hv
    exact o _ (by omega)
  · intro o z hz
    by_cases hm : z ∈ b.hds
    · have := o (-1 - z) ((h _).2 ⟨z, hm, hz, rfl⟩)
      rwa [show -1 - (-1 - z) = z from by omega] at this
    · rw [List.count_eq_zero.2 hm]; exact Nat.zero_le _
/-! ### The first arguments that are not the same -/
theorem gtL_take {g : Sg} : ∀ {ts us : List T} {k : Nat}, ts.take k = us.take k → ts.length = us.length → gtL g ts us = gtL g (ts.drop k) (us.drop k)
  | ts, us, 0, _, _ => by simp
  | [], [], k + 1, _, _ => by simp
  | [], _ :: _, k + 1, _, hl => by simp at hl
  | _ :: _, [], k + 1, _, hl => by simp at hl
  | t :: ts, u :: us, k + 1, h, hl => by
    simp only [List.take_succ_cons, List.cons.injEq] at h
    obtain ⟨rfl, h⟩ := h
    rw [gtL, T.same_self, if_pos rfl]
    simp only [List.drop_succ_cons]
    exact gtL_take h (by simpa using hl)
theorem gtL_at {g : Sg} {ts us : List T} {k : Nat} {t u : T} (h : ts.take k = us.take k) (hl : ts.length = us.length) (ht : ts[k]? = some t) (hu : us[k]? = some u) (hne : t ≠ u) : gtL g ts us = gtK g t u := by
  rw [gtL_take h hl]
  obtain ⟨h1, e1⟩ := List.getElem?_eq_some_iff.1 ht
  obtain ⟨h2, e2⟩ := List.getElem?_eq_some_iff.1 hu
  rw [List.drop_eq_getElem_cons h1, List.drop_eq_getElem_cons h2, e1, e2, gtL, T.same_ne hne, if_neg (by simp)]
theorem gtL_end {g : Sg} {ts us : List T} (h : ts.take ts.length = us.take ts.length) (hl : ts.length = us.length) : gtL g ts us = false := by
  have : ts = us := by rw [List.take_length, hl, List.take_length] at h; exact h
  rw [this, gtL_self]
end Go.Proofs.YtpncmdlbmnmahaaGreat
