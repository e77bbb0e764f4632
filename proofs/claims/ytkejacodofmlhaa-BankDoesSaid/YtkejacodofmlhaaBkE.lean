/- Banks in plain words: a row of terms, its rows of numbers, and that both answer alike. -/
import Derived.Test.YtkejacodofmlhaaBkS
import Derived.Test.YtkejacodofmlhaaOrd
namespace Go.Proofs.Ytkejacodofmlhaa
set_option linter.unusedVariables false
set_option linter.unusedSimpArgs false
open Go.RowKit

instance : DecidableEq T := fun x y => decidable_of_iff (T.cmp x y = 0) T.cmp_zero

def fi (L : List T) (t : T) : Option Nat := if t ∈ L then some (L.idxOf t) else none
mutual
def pt (L : List T) : T → List T × Option Nat
  | .node h ts => if T.node h ts ∈ L then (L, some (L.idxOf (T.node h ts))) else match pts L ts with
    | (L', false) => (L', none)
    | (L', true) => if 4096 ≤ L'.length then (L', none) else (L' ++ [T.node h ts], some L'.length)
def pts (L : List T) : List T → List T × Bool
  | [] => (L, true)
  | t :: ts => match pt L t with
    | (L1, none) => (L1, false)
    | (L1, some _) => pts L1 ts
end
theorem pt_eq (L : List T) (t : T) : pt L t = if t ∈ L then (L, some (L.idxOf t)) else match pts L t.args with
    | (L', false) => (L', none)
    | (L', true) => if 4096 ≤ L'.length then (L', none) else (L' ++ [t], some L'.length) := by
  cases t
  rw [pt]; rfl

/-- The rows of numbers are those of the terms. -/
structure Enc (L : List T) (rs : List (List Int)) : Prop where
  len : rs.length = L.length
  row : ∀ {i : Nat} {t : T}, L[i]? = some t → ∃ ids : List Int, rs[i]? = some (rowOf t.head t.args.length ids) ∧ ids.length = t.args.length ∧ ∀ {j : Nat} {s : T}, t.args[j]? = some s → ∃ k : Nat, ids[j]? = some (k : Int) ∧ k < i ∧ L[k]? = some s
  nodup : ∀ {i j : Nat} {t : T}, L[i]? = some t → L[j]? = some t → i = j
  nar : ∀ t ∈ L, t.args.length ≤ 8
  wf : ∀ t ∈ L, (Lit.int .i64 t.head).wf = true

theorem Enc.nil : Enc [] [] := ⟨rfl, by simp, by simp, by simp, by simp⟩

theorem rowOf_inj {h h' : Int} {n n' : Nat} {ids ids' : List Int} (hl : ids.length = n) (hl' : ids'.length = n') (e : rowOf h n ids = rowOf h' n' ids') : h = h' ∧ n = n' ∧ ids = ids' := by
  simp only [rowOf, List.cons.injEq] at e
  obtain ⟨e1, e2, e3⟩ := e
  have hn : n = n' := by omega
  refine ⟨e1, hn, ?_⟩
  exact (List.append_inj e3 (by omega)).1

theorem ext_args {ts us : List T} (h : ts.length = us.length) (hx : ∀ {j : Nat} {s : T}, ts[j]? = some s → us[j]? = some s) : ts = us := by
  apply List.ext_getElem h
  intro j h1 h2
  have := hx (List.getElem?_eq_getElem h1)
  rw [List.getElem?_eq_getElem h2] at this
  exact (Option.some.inj this).symm

/-- Of the same rows the terms are the same. -/
theorem Enc.same {L : List T} {rs : List (List Int)} (E : Enc L rs) {i : Nat} {u : T} (hu : L[i]? = some u) {t : T} {ids : List Int} (hl : ids.length = t.args.length)
    (ha : ∀ {j : Nat} {s : T}, t.args[j]? = some s → ∃ k : Nat, ids[j]? = some (k : Int) ∧ L[k]? = some s) (e : rs[i]? = some (rowOf t.head t.args.length ids)) : u = t := by
  obtain ⟨ids', h1, h2, h3⟩ := E.row hu
  rw [h1, Option.some.injEq] at e
  obtain ⟨e1, e2, e3⟩ := rowOf_inj h2 hl e
  subst e3
  rw [← T.eta u, ← T.eta t, e1]
  congr 1
  refine ext_args e2 (fun {j s} hs => ?_)
  obtain ⟨k, hk1, hk2, hk3⟩ := h3 hs
  have hj : j < t.args.length := by have := (List.getElem?_eq_some_iff.1 hs).1; omega
  obtain ⟨k', hk1', hk2'⟩ := ha (List.getElem?_eq_getElem hj)
  rw [hk1] at hk1'
  have : (k : Int) = k' := by simpa using hk1'
  have : k = k' := by omega
  subst this
  rw [hk3] at hk2'
  rw [List.getElem?_eq_getElem hj, ← hk2']

theorem Enc.rows_nodup {L : List T} {rs : List (List Int)} (E : Enc L rs) {i j : Nat} {r : List Int} (hi : rs[i]? = some r) (hj : rs[j]? = some r) : i = j := by
  have hil : i < L.length := by have := (List.getElem?_eq_some_iff.1 hi).1; rw [E.len] at this; exact this
  have hjl : j < L.length := by have := (List.getElem?_eq_some_iff.1 hj).1; rw [E.len] at this; exact this
  obtain ⟨ids, h1, h2, h3⟩ := E.row (List.getElem?_eq_getElem hil)
  have := E.same (List.getElem?_eq_getElem hjl) h2 (fun {q s} hs => by obtain ⟨k, a, _, b⟩ := h3 hs; exact ⟨k, a, b⟩) (by rw [hj, ← hi, h1])
  exact E.nodup (List.getElem?_eq_getElem hil) (by rw [List.getElem?_eq_getElem hjl, this])

theorem idx_at {α : Type} [BEq α] [LawfulBEq α] {l : List α} (hn : ∀ {i j : Nat} {r : α}, l[i]? = some r → l[j]? = some r → i = j) {i : Nat} {r : α} (h : l[i]? = some r) : r ∈ l ∧ l.idxOf r = i := by
  have hm : r ∈ l := List.mem_of_getElem? h
  have hlt := List.idxOf_lt_length_iff.2 hm
  refine ⟨hm, hn (r := r) ?_ h⟩
  rw [List.getElem?_eq_getElem hlt, List.getElem_idxOf]

theorem fi_at {L : List T} {rs : List (List Int)} (E : Enc L rs) {i : Nat} {t : T} (h : L[i]? = some t) : fi L t = some i := by
  obtain ⟨h1, h2⟩ := idx_at (fun {i j r} => E.nodup) h
  unfold fi
  rw [if_pos h1, h2]
theorem fi_get {L : List T} {t : T} {i : Nat} (h : fi L t = some i) : L[i]? = some t := by
  unfold fi at h
  split at h
  · rename_i hm
    have hlt := List.idxOf_lt_length_iff.2 hm
    have e : L.idxOf t = i := by simpa using h
    rw [← e, List.getElem?_eq_getElem hlt, List.getElem_idxOf]
  · cases h

/-- A term that is kept: nothing changes. -/
theorem kp_old {L : List T} {rs : List (List Int)} (E : Enc L rs) : ∀ (N : Nat) (t : T), t.size ≤ N → ∀ {i : Nat}, L[i]? = some t → kp rs t = (rs, some i) ∧ sr rs t = some i := by
  intro N
  induction N with
  | zero => intro t ht; have := T.size_pos t; omega
  | succ N ih =>
    intro t ht i hi
    obtain ⟨ids, h1, h2, h3⟩ := E.row hi
    have hargs : ∀ (us : List T) (js : List Int), T.sizes us ≤ N → js.length = us.length → (∀ {j : Nat} {s : T}, us[j]? = some s → ∃ k : Nat, js[j]? = some (k : Int) ∧ L[k]? = some s) → kps rs us = (rs, some js) ∧ srs rs us = some js := by
      intro us
      induction us with
      | nil => intro js _ hl _; obtain rfl : js = [] := List.eq_nil_of_length_eq_zero hl; simp [kps, srs]
      | cons u us ihu =>
        intro js hs hl hx
        rcases js with _ | ⟨z, js⟩
        · simp at hl
        · simp only [T.sizes] at hs
          obtain ⟨k, a, b⟩ := hx (j := 0) (s := u) rfl
          have hz : z = k := by simpa using a
          obtain ⟨q1, q2⟩ := ih u (by omega) b
          obtain ⟨r1, r2⟩ := ihu js (by omega) (by simpa using hl) (fun {j s} hjs => by
            obtain ⟨k, a, b⟩ := hx (j := j + 1) (s := s) (by simpa using hjs)
            exact ⟨k, by simpa using a, b⟩)
          rw [kps, srs, q1, q2]
          simp only [r1, r2, hz, and_self]
    obtain ⟨q1, q2⟩ := hargs t.args ids (by have := T.size_eq t; omega) h2 (fun {j s} hs => by obtain ⟨k, a, _, b⟩ := h3 hs; exact ⟨k, a, b⟩)
    obtain ⟨m1, m2⟩ := idx_at (fun {i j r} => E.rows_nodup) h1
    rw [kp_eq, sr_eq, q1, q2]
    simp only [addR, if_pos m1, m2, and_self]

theorem kps_ids {L : List T} {rs : List (List Int)} (E : Enc L rs) {us : List T} {js : List Int} (hl : js.length = us.length) (hx : ∀ {j : Nat} {s : T}, us[j]? = some s → ∃ k : Nat, js[j]? = some (k : Int) ∧ L[k]? = some s) :
    kps rs us = (rs, some js) := by
  induction us generalizing js with
  | nil => obtain rfl : js = [] := List.eq_nil_of_length_eq_zero hl; simp [kps]
  | cons u us ihu =>
    rcases js with _ | ⟨z, js⟩
    · simp at hl
    · obtain ⟨k, a, b⟩ := hx (j := 0) (s := u) rfl
      have hz : z = k := by simpa using a
      have q1 := (kp_old E _ u (Nat.le_refl _) b).1
      have r1 := ihu (js := js) (by simpa using hl) (fun {j s} hjs => by
        obtain ⟨k, a, b⟩ := hx (j := j + 1) (s := s) (by simpa using hjs)
        exact ⟨k, by simpa using a, b⟩)
      rw [kps, q1]
      simp only [r1, hz]

mutual
/-- Heads that are numbers of 64 bits. -/
def wfT : T → Bool
  | .node h ts => (Lit.int .i64 h).wf && wfTs ts
def wfTs : List T → Bool
  | [] => true
  | t :: ts => wfT t && wfTs ts
end

/-- What a put leaves: more terms, none greater than what was put. -/
structure Grew (L L' : List T) (n : Nat) : Prop where
  pre : ∃ X, L' = L ++ X ∧ ∀ u ∈ X, u.size ≤ n
theorem Grew.refl (L : List T) (n : Nat) : Grew L L n := ⟨[], by simp, by simp⟩
theorem Grew.trans {L L1 L2 : List T} {n m k : Nat} (h : Grew L L1 n) (g : Grew L1 L2 m) (hn : n ≤ k) (hm : m ≤ k) : Grew L L2 k := by
  obtain ⟨X, rfl, hX⟩ := h.pre
  obtain ⟨Y, rfl, hY⟩ := g.pre
  refine ⟨X ++ Y, by simp, fun u hu => ?_⟩
  rcases List.mem_append.1 hu with hu | hu
  · have := hX u hu; omega
  · have := hY u hu; omega
theorem Grew.get {L L' : List T} {n : Nat} (h : Grew L L' n) {i : Nat} {t : T} (hi : L[i]? = some t) : L'[i]? = some t := by
  obtain ⟨X, rfl, _⟩ := h.pre
  have := (List.getElem?_eq_some_iff.1 hi).1
  rw [List.getElem?_append_left this]
  exact hi
theorem Grew.not {L L' : List T} {n : Nat} (h : Grew L L' n) {t : T} (ht : t ∉ L) (hn : n < t.size) : t ∉ L' := by
  obtain ⟨X, rfl, hX⟩ := h.pre
  intro hm
  rcases List.mem_append.1 hm with hm | hm
  · exact ht hm
  · have := hX t hm; omega

theorem Enc.snoc {L : List T} {rs : List (List Int)} (E : Enc L rs) {t : T} (ht : t ∉ L) (hn : t.args.length ≤ 8) (hw : (Lit.int .i64 t.head).wf = true) {ids : List Int} (hl : ids.length = t.args.length)
    (hx : ∀ {j : Nat} {s : T}, t.args[j]? = some s → ∃ k : Nat, ids[j]? = some (k : Int) ∧ L[k]? = some s) : Enc (L ++ [t]) (rs ++ [rowOf t.head t.args.length ids]) := by
  have old : ∀ {i : Nat} {u : T}, (L ++ [t])[i]? = some u → (i < L.length ∧ L[i]? = some u) ∨ (i = L.length ∧ u = t) := by
    intro i u hu
    rcases Nat.lt_or_ge i L.length with h | h
    · exact .inl ⟨h, by rwa [List.getElem?_append_left h] at hu⟩
    · rw [List.getElem?_append_right h] at hu
      have hz : i - L.length = 0 := by have := (List.getElem?_eq_some_iff.1 hu).1; simp at this; omega
      rw [hz] at hu
      exact .inr ⟨by omega, by simpa using hu.symm⟩
  refine ⟨by simp [E.len], ?_, ?_, ?_, ?_⟩
  · intro i u hu
    rcases old hu with ⟨h, hu⟩ | ⟨rfl, rfl⟩
    · obtain ⟨is, h1, h2, h3⟩ := E.row hu
      refine ⟨is, by rw [List.getElem?_append_left (by rw [E.len]; exact h)]; exact h1, h2, fun {j s} hs => ?_⟩
      obtain ⟨k, a, b, c⟩ := h3 hs
      exact ⟨k, a, b, by rw [List.getElem?_append_left (by omega)]; exact c⟩
    · refine ⟨ids, by rw [List.getElem?_append_right (by rw [E.len]; exact Nat.le_refl _), E.len]; simp, hl, fun {j s} hs => ?_⟩
      obtain ⟨k, a, b⟩ := hx hs
      have := (List.getElem?_eq_some_iff.1 b).1
      exact ⟨k, a, this, by rw [List.getElem?_append_left this]; exact b⟩
  · intro i j u hi hj
    rcases old hi with ⟨h, hi'⟩ | ⟨e1, e2⟩ <;> rcases old hj with ⟨h', hj'⟩ | ⟨e3, e4⟩
    · exact E.nodup hi' hj'
    · rw [e4] at hi'; exact absurd (List.mem_of_getElem? hi') ht
    · rw [e2] at hj'; exact absurd (List.mem_of_getElem? hj') ht
    · omega
  · intro u hu
    rcases List.mem_append.1 hu with hu | hu
    · exact E.nar u hu
    · obtain rfl : u = t := by simpa using hu
      exact hn
  · intro u hu
    rcases List.mem_append.1 hu with hu | hu
    · exact E.wf u hu
    · obtain rfl : u = t := by simpa using hu
      exact hw

theorem Enc.fresh {L : List T} {rs : List (List Int)} (E : Enc L rs) {t : T} (ht : t ∉ L) {ids : List Int} (hl : ids.length = t.args.length)
    (hx : ∀ {j : Nat} {s : T}, t.args[j]? = some s → ∃ k : Nat, ids[j]? = some (k : Int) ∧ L[k]? = some s) : rowOf t.head t.args.length ids ∉ rs := by
  intro hm
  obtain ⟨i, hi⟩ := List.getElem?_of_mem hm
  have hil : i < L.length := by have := (List.getElem?_eq_some_iff.1 hi).1; rw [E.len] at this; exact this
  have := E.same (List.getElem?_eq_getElem hil) hl hx hi
  exact ht (this ▸ List.getElem_mem hil)

/-- Both banks answer alike. -/
theorem kp_pt : ∀ (N : Nat) (t : T), t.size ≤ N → nar t = true → wfT t = true → ∀ {L : List T} {rs : List (List Int)}, Enc L rs →
    (kp rs t).2 = (pt L t).2 ∧ Enc (pt L t).1 (kp rs t).1 ∧ Grew L (pt L t).1 t.size ∧ ∀ i, (pt L t).2 = some i → (pt L t).1[i]? = some t := by
  intro N
  induction N with
  | zero => intro t ht; have := T.size_pos t; omega
  | succ N ih =>
    intro t ht hnar hwf L rs E
    have hlist : ∀ (us : List T), T.sizes us ≤ N → nars us = true → wfTs us = true → ∀ {L : List T} {rs : List (List Int)}, Enc L rs →
        Enc (pts L us).1 (kps rs us).1 ∧ Grew L (pts L us).1 (T.sizes us) ∧ ((pts L us).2 = false ∧ (kps rs us).2 = none ∨ (pts L us).2 = true ∧ ∃ js : List Int, (kps rs us).2 = some js ∧ js.length = us.length ∧ ∀ {j : Nat} {s : T}, us[j]? = some s → ∃ k : Nat, js[j]? = some (k : Int) ∧ (pts L us).1[k]? = some s) := by
      intro us
      induction us with
      | nil => intro _ _ _ L rs E; simp only [pts, kps]; exact ⟨E, Grew.refl _ _, .inr ⟨trivial, [], rfl, rfl, by simp⟩⟩
      | cons u us ihu =>
        intro hs hn hw L rs E
        simp only [T.sizes] at hs
        simp only [nars, Bool.and_eq_true] at hn
        simp only [wfTs, Bool.and_eq_true] at hw
        obtain ⟨q1, q2, q3, q4⟩ := ih u (by omega) hn.1 hw.1 E
        rw [pts, kps]
        rcases hp : pt L u with ⟨L1, _ | i⟩
        · rw [hp] at q1 q2 q3
          rcases hk : kp rs u with ⟨r1, o⟩
          rw [hk] at q1 q2
          simp only [] at q1 q2
          subst q1
          exact ⟨q2, q3.trans (Grew.refl _ 0) (by simp [T.sizes]) (by omega), .inl ⟨rfl, rfl⟩⟩
        · rw [hp] at q1 q2 q3 q4
          rcases hk : kp rs u with ⟨r1, o⟩
          rw [hk] at q1 q2
          simp only [] at q1 q2
          subst q1
          obtain ⟨p1, p2, p3⟩ := ihu (by omega) hn.2 hw.2 q2
          simp only []
          rcases p3 with ⟨p3, p4⟩ | ⟨p3, js, p4, p5, p6⟩
          · rcases hk2 : kps r1 us with ⟨r2, o2⟩
            rw [hk2] at p4 p1
            simp only [] at p4 p1
            subst p4
            exact ⟨p1, q3.trans p2 (by simp only [T.sizes]; omega) (by simp only [T.sizes]; omega), .inl ⟨p3, rfl⟩⟩
          · rcases hk2 : kps r1 us with ⟨r2, o2⟩
            rw [hk2] at p4 p1
            simp only [] at p4 p1
            subst p4
            refine ⟨p1, q3.trans p2 (by simp only [T.sizes]; omega) (by simp only [T.sizes]; omega), .inr ⟨p3, _, rfl, by simp [p5], fun {j s} hjs => ?_⟩⟩
            rcases j with _ | j
            · simp at hjs
              subst hjs
              exact ⟨i, by simp, p2.get (q4 i rfl)⟩
            · exact p6 (by simpa using hjs)
    by_cases hin : t ∈ L
    · obtain ⟨i, hi⟩ := List.getElem?_of_mem hin
      have hk := (kp_old E _ t (Nat.le_refl _) hi).1
      have hp : pt L t = (L, some i) := by rw [pt_eq, if_pos hin, (idx_at (fun {i j r} => E.nodup) hi).2]
      rw [hk, hp]
      exact ⟨rfl, E, Grew.refl _ _, fun k hk => by obtain rfl : i = k := by simpa using hk
                                                   exact hi⟩
    · obtain ⟨hn8, hns⟩ := nar_args hnar
      have hws : (Lit.int .i64 t.head).wf = true ∧ wfTs t.args = true := by cases t; simpa [wfT, T.head, T.args] using hwf
      obtain ⟨p1, p2, p3⟩ := hlist t.args (by have := T.size_eq t; omega) hns hws.2 E
      have hsz := T.size_eq t
      rw [pt_eq, if_neg hin, kp_eq]
      rcases hp : pts L t.args with ⟨L1, b⟩
      rcases hk : kps rs t.args with ⟨r1, o⟩
      rw [hp, hk] at p1 p3
      rw [hp] at p2
      simp only [] at p1 p2 p3
      rcases p3 with ⟨rfl, rfl⟩ | ⟨rfl, js, rfl, p5, p6⟩
      · exact ⟨rfl, p1, p2.trans (Grew.refl _ 0) (by omega) (by omega), by simp⟩
      · have hnew : t ∉ L1 := p2.not hin (by omega)
        have hfr := p1.fresh hnew p5 p6
        simp only [addR, if_neg hfr, p1.len]
        by_cases hf : 4096 ≤ L1.length
        · simp only [if_pos hf]
          exact ⟨trivial, p1, p2.trans (Grew.refl _ 0) (by omega) (by omega), by simp⟩
        · simp only [if_neg hf]
          refine ⟨trivial, p1.snoc hnew hn8 hws.1 p5 p6, p2.trans ⟨[t], rfl, by simp⟩ (by omega) (Nat.le_refl _), fun k hk => ?_⟩
          obtain rfl : L1.length = k := by simpa using hk
          simp

/-- Both find alike. -/
theorem sr_fi {L : List T} {rs : List (List Int)} (E : Enc L rs) : ∀ (N : Nat) (t : T), t.size ≤ N → sr rs t = fi L t := by
  intro N
  induction N with
  | zero => intro t ht; have := T.size_pos t; omega
  | succ N ih =>
    intro t ht
    by_cases hin : t ∈ L
    · obtain ⟨i, hi⟩ := List.getElem?_of_mem hin
      rw [(kp_old E _ t (Nat.le_refl _) hi).2, fi_at E hi]
    · have hl : ∀ (us : List T) (js : List Int), T.sizes us ≤ N → srs rs us = some js → js.length = us.length ∧ ∀ {j : Nat} {s : T}, us[j]? = some s → ∃ k : Nat, js[j]? = some (k : Int) ∧ L[k]? = some s := by
        intro us
        induction us with
        | nil => intro js _ h; simp [srs] at h; subst h; exact ⟨rfl, by simp⟩
        | cons u us ihu =>
          intro js hs h
          simp only [T.sizes] at hs
          rw [srs, ih u (by omega)] at h
          rcases h1 : fi L u with _ | i
          · rw [h1] at h; cases h
          · rw [h1] at h
            simp only [] at h
            rcases h2 : srs rs us with _ | is
            · rw [h2] at h; cases h
            · rw [h2] at h
              simp only [Option.some.injEq] at h
              subst h
              obtain ⟨q1, q2⟩ := ihu is (by omega) h2
              refine ⟨by simp [q1], fun {j s} hjs => ?_⟩
              rcases j with _ | j
              · simp at hjs; subst hjs; exact ⟨i, by simp, fi_get h1⟩
              · exact q2 (by simpa using hjs)
      rw [sr_eq]
      unfold fi
      rw [if_neg hin]
      rcases hk : srs rs t.args with _ | js
      · rfl
      · obtain ⟨q1, q2⟩ := hl t.args js (by have := T.size_eq t; omega) hk
        simp only []
        rw [if_neg (E.fresh hin q1 q2)]

end Go.Proofs.Ytkejacodofmlhaa
