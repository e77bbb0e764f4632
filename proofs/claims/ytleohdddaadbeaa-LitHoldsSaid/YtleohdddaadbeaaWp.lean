/- Worlds of few things: what the document says of them; plain facts. -/
import Derived.Test.YtleohdddaadbeaaQDa
import Derived.Test.YtleohdddaadbeaaWm
namespace Go.Proofs.Ytleohdddaadbeaa
set_option linter.unusedVariables false
set_option linter.unusedSimpArgs false
open Go.RowKit

def powI (z : Int) : Nat → Int
  | 0 => 1
  | n + 1 => powI z n * z
def mostI (z : Int) (x : Sy) : Int := if x.tr then 2 else z
def rowOk (z : Int) (x : Sy) (r : List Int) : Bool := decide (x.ar ≤ 4) && decide ((r.length : Int) = powI z x.ar.toNat) && r.all (fun k => decide (0 ≤ k ∧ k < mostI z x))
def rowAt (g : Sg) (m : Ip) (i : Nat) : Bool := match g[i]?, m.rows[i]? with
  | some x, some r => rowOk m.size x r
  | _, _ => false
def firstI : List (List Int) → Int
  | (k :: _) :: _ => k
  | _ => 0
/-- Is a world one of a signature? -/
def wRight (g : Sg) (m : Ip) : Bool :=
  rightG g && decide (1 ≤ m.size) && decide (m.size ≤ 4) && decide (m.rows.length = g.length) && (List.range g.length).all (rowAt g m) && decide (firstI m.rows = 1)
mutual
/-- The value of a term. -/
def valT (m : Ip) (f : List Int) : T → Int
  | .node h ts => if h < 0 then f.getD (-1 - h).toNat 0 else (m.rows.getD h.toNat []).getD (valL m f 0 ts).toNat 0
def valL (m : Ip) (f : List Int) (i : Int) : List T → Int
  | [] => i
  | t :: ts => valL m f (i * m.size + valT m f t) ts
end
theorem valT_eq (m : Ip) (f : List Int) (t : T) : valT m f t = if t.head < 0 then f.getD (-1 - t.head).toNat 0 else (m.rows.getD t.head.toNat []).getD (valL m f 0 t.args).toNat 0 := by cases t; rfl
def litB (m : Ip) (f : List Int) (n : Bool) (l r : T) : Bool := decide (valT m f l = valT m f r) != n

theorem pow_small {z : Int} {n : Nat} (h1 : 1 ≤ z) (h2 : z ≤ 4) (hn : n ≤ 4) : 1 ≤ powI z n ∧ powI z n ≤ 256 := by
  have hz : z = 1 ∨ z = 2 ∨ z = 3 ∨ z = 4 := by omega
  have hn' : n = 0 ∨ n = 1 ∨ n = 2 ∨ n = 3 ∨ n = 4 := by omega
  rcases hz with rfl | rfl | rfl | rfl <;> rcases hn' with rfl | rfl | rfl | rfl | rfl <;> decide
theorem wRight_of {g : Sg} {m : Ip} (h : wRight g m = true) : rightG g = true ∧ 1 ≤ m.size ∧ m.size ≤ 4 ∧ m.rows.length = g.length ∧ (∀ (i : Nat) (x : Sy), g[i]? = some x → ∃ r, m.rows[i]? = some r ∧ x.ar ≤ 4 ∧ (r.length : Int) = powI m.size x.ar.toNat ∧ ∀ k ∈ r, 0 ≤ k ∧ k < mostI m.size x) ∧ firstI m.rows = 1 := by
  unfold wRight at h
  simp only [Bool.and_eq_true, decide_eq_true_eq, List.all_eq_true, List.mem_range] at h
  obtain ⟨⟨⟨⟨⟨h1, h2⟩, h3⟩, h4⟩, h5⟩, h6⟩ := h
  refine ⟨h1, h2, h3, h4, fun i x hx => ?_, h6⟩
  have hi := (List.getElem?_eq_some_iff.1 hx).1
  have := h5 i hi
  unfold rowAt at this
  rw [hx] at this
  cases hr : m.rows[i]? with
  | none => rw [hr] at this; cases this
  | some r =>
    rw [hr] at this
    simp only [rowOk, Bool.and_eq_true, decide_eq_true_eq, List.all_eq_true] at this
    exact ⟨r, rfl, this.1.1, this.1.2, this.2⟩
theorem valL_append (m : Ip) (f : List Int) : ∀ (ts us : List T) (i : Int), valL m f i (ts ++ us) = valL m f (valL m f i ts) us
  | [], us, i => by rw [valL]; rfl
  | t :: ts, us, i => by
    rw [List.cons_append, valL, valL]
    exact valL_append m f ts us _
theorem valL_take {m : Ip} {f : List Int} {ts : List T} {k : Nat} {t : T} (h : ts[k]? = some t) : valL m f 0 (ts.take (k + 1)) = valL m f 0 (ts.take k) * m.size + valT m f t := by
  obtain ⟨hk, rfl⟩ := List.getElem?_eq_some_iff.1 h
  rw [List.take_add_one, h, valL_append]
  rfl
/-- May the value be taken? -/
def OkV (g : Sg) (t : T) : Prop := fitsT g t = true ∧ bad (T.subs 1 t) = false ∧ predL g t.args = false
theorem okV_of {g : Sg} {t : T} (h : errT g t = 0) : OkV g t := by
  obtain ⟨_, r2, r3, r4⟩ := errT_ok h
  exact ⟨r3, (check_ok r2).2.2, r4⟩
theorem okV_arg {g : Sg} {t s : T} (h : OkV g t) (hs : s ∈ t.args) : OkV g s ∧ predS g s.head = false := by
  obtain ⟨h1, h2, h3⟩ := h
  obtain ⟨k1, k2⟩ := fits_args h1 h2 s hs
  rw [predL_any, List.any_eq_false] at h3
  have := h3 s hs
  rw [predT_eq, Bool.not_eq_true, Bool.or_eq_false_iff] at this
  exact ⟨⟨k1, k2, this.2⟩, this.1⟩
theorem okV_sym {g : Sg} {t : T} (h : OkV g t) (h0 : 0 ≤ t.head) : ∃ x, g[t.head.toNat]? = some x ∧ (t.args.length : Int) = x.ar ∧ predS g t.head = x.tr := by
  obtain ⟨h1, _, _⟩ := h
  rw [fitsT_eq] at h1
  have h1' : armOk g t.head t.args.length = true := by
    cases ha : armOk g t.head t.args.length with
    | true => rfl
    | false => rw [ha] at h1; simp at h1; omega
  unfold armOk at h1'
  cases hx : g[t.head.toNat]? with
  | none => rw [hx] at h1'; simp at h1'; omega
  | some x =>
    rw [hx] at h1'
    refine ⟨x, rfl, ?_, ?_⟩
    · simp at h1'; omega
    · unfold predS; rw [hx]; simp [h0]

theorem mul_lt {a b p z : Int} (h0 : 0 ≤ a) (h : a < p) (hz : 1 ≤ z) (hb : 0 ≤ b) (hb2 : b < z) : 0 ≤ a * z + b ∧ a * z + b < p * z := by
  have h1 : 0 ≤ a * z := Int.mul_nonneg h0 (by omega)
  have h2 : (a + 1) * z ≤ p * z := Int.mul_le_mul_of_nonneg_right (by omega) (by omega)
  rw [Int.add_mul, Int.one_mul] at h2
  omega

/-- The place in a row, behind some arguments. -/
theorem valL_range {g : Sg} {m : Ip} {f : List Int} (hz : 1 ≤ m.size) : ∀ {ts : List T}, (∀ s ∈ ts, 0 ≤ valT m f s ∧ valT m f s < m.size) → ∀ k, k ≤ ts.length → 0 ≤ valL m f 0 (ts.take k) ∧ valL m f 0 (ts.take k) < powI m.size k := by
  intro ts h k
  induction k with
  | zero => intro _; simp [valL, powI]
  | succ k ih =>
    intro hk
    obtain ⟨i1, i2⟩ := ih (by omega)
    have hg : ts[k]? = some ts[k] := List.getElem?_eq_getElem (by omega)
    obtain ⟨v1, v2⟩ := h _ (List.mem_of_getElem? hg)
    rw [valL_take hg]
    exact mul_lt i1 i2 hz v1 v2
theorem getD_mem {l : List Int} {i : Nat} (h : i < l.length) : l.getD i 0 ∈ l := by
  rw [List.getD_eq_getElem?_getD, List.getElem?_eq_getElem h]; exact List.getElem_mem h
theorem valT_range {g : Sg} {m : Ip} (hm : wRight g m = true) {f : List Int} (hf : ∀ z ∈ f, 0 ≤ z ∧ z < m.size) : ∀ (N : Nat) (t : T), t.size ≤ N → OkV g t → 0 ≤ valT m f t ∧ (predS g t.head = false → valT m f t < m.size) := by
  obtain ⟨m1, m2, m3, m4, m5, m6⟩ := wRight_of hm
  intro N
  induction N with
  | zero => intro t ht; have := T.size_pos t; omega
  | succ N ih =>
    intro t ht hok
    rw [valT_eq]
    by_cases h0 : t.head < 0
    · rw [if_pos h0]
      by_cases hl : (-1 - t.head).toNat < f.length
      · exact ⟨(hf _ (getD_mem hl)).1, fun _ => (hf _ (getD_mem hl)).2⟩
      · rw [List.getD_eq_getElem?_getD, List.getElem?_eq_none (by omega)]
        exact ⟨by simp, fun _ => by simp; omega⟩
    · rw [if_neg h0]
      obtain ⟨x, hx, ha, hp⟩ := okV_sym hok (by omega)
      obtain ⟨r, hr, r1, r2, r3⟩ := m5 _ _ hx
      have hargs : ∀ s ∈ t.args, 0 ≤ valT m f s ∧ valT m f s < m.size := fun s hs => by
        obtain ⟨i, hi⟩ := List.getElem?_of_mem hs
        have h1 := T.size_lt_of_mem hi
        have h2 := T.size_eq t
        obtain ⟨q1, q2⟩ := okV_arg hok hs
        obtain ⟨q3, q4⟩ := ih s (by omega) q1
        exact ⟨q3, q4 q2⟩
      have hv := valL_range (g := g) m2 hargs t.args.length (Nat.le_refl _)
      rw [List.take_length] at hv
      rw [show x.ar.toNat = t.args.length from by omega] at r2
      have hmem : r.getD (valL m f 0 t.args).toNat 0 ∈ r := getD_mem (by omega)
      rw [List.getD_eq_getElem?_getD (l := m.rows), hr]
      refine ⟨(r3 _ hmem).1, fun hq => ?_⟩
      have := (r3 _ hmem).2
      unfold mostI at this
      rw [← hp, hq] at this
      exact this

/-! ### Literals in a world -/
theorem lit_sid {m : Ip} {f : List Int} {n : Bool} {l r l' r' : T} (h : sidB l r l' r' = true) : litB m f n l r = litB m f n l' r' := by
  rw [sidB_iff] at h
  unfold litB
  rcases h with ⟨rfl, rfl⟩ | ⟨rfl, rfl⟩
  · rfl
  · rw [show decide (valT m f l = valT m f r) = decide (valT m f r = valT m f l) from by rw [Bool.eq_iff_iff, decide_eq_true_eq, decide_eq_true_eq]; exact eq_comm]
theorem lit_samL {m : Ip} {f : List Int} {n n' : Bool} {l r l' r' : T} (h : samL n l r n' l' r' = true) : litB m f n l r = litB m f n' l' r' := by
  rw [samL, Bool.and_eq_true, beq_iff_eq] at h
  obtain ⟨rfl, h⟩ := h
  exact lit_sid h
theorem lit_oppL {m : Ip} {f : List Int} {n n' : Bool} {l r l' r' : T} (h : oppL n l r n' l' r' = true) : litB m f n l r = !litB m f n' l' r' := by
  rw [oppL, Bool.and_eq_true] at h
  obtain ⟨h1, h⟩ := h
  rw [lit_sid h]
  unfold litB
  cases n <;> cases n' <;> cases decide (valT m f l' = valT m f r') <;> simp_all
theorem lit_triv {m : Ip} {f : List Int} {n : Bool} {l r : T} (h : sameB l r = true) : litB m f n l r = !n := by
  rw [sameB_iff] at h
  subst h
  unfold litB
  simp

end Go.Proofs.Ytleohdddaadbeaa
