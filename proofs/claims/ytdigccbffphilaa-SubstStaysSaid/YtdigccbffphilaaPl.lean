/- What is put and found at places of terms; memory of variables. For the walks of layer 2. -/
import Derived.Test.YtdigccbffphilaaAw2
import Derived.Test.YtdigccbffphilaaRef
import Derived.Test.YtdigccbffphilaaOrd
import Derived.Test.YtdigccbffphilaaCount
namespace Go.Proofs.Ytdigccbffphilaa
set_option linter.unusedVariables false
set_option linter.unusedSimpArgs false
open Go.RowKit

theorem T.args_node (h : Int) (ts : List T) : (T.node h ts).args = ts := rfl
theorem T.at_cons {t s : T} {i : Int} {p : List Int} (h : t.at (i :: p) = some s) : 0 ≤ i ∧ i < t.args.length ∧ ∃ x, t.args[i.toNat]? = some x ∧ x.at p = some s := by
  simp only [T.at] at h
  split at h
  · cases h
  · cases hx : t.args[i.toNat]? with
    | none => rw [hx] at h; cases h
    | some x => rw [hx] at h; exact ⟨by omega, by omega, x, rfl, h⟩
theorem T.at_put_same {t s : T} (u : T) {p : List Int} (h : t.at p = some s) : (t.put u p).at p = some u := by
  induction p generalizing t with
  | nil => simp [T.put, T.at]
  | cons i p ih =>
    obtain ⟨h0, h1, x, hx, hs⟩ := T.at_cons h
    have hm : (t.args.modify i.toNat (fun y => y.put u p))[i.toNat]? = some (x.put u p) := by rw [List.getElem?_modify, hx]; simp
    simp only [T.put, T.at, T.args_node, List.length_modify, hm, Option.bind_some]
    rw [if_neg (by omega)]
    exact ih hs
theorem T.put_self {t s : T} {p : List Int} (h : t.at p = some s) : t.put s p = t := by
  induction p generalizing t with
  | nil => simp [T.at] at h; subst h; rfl
  | cons i p ih =>
    obtain ⟨h0, h1, x, hx, hs⟩ := T.at_cons h
    simp only [T.put]
    rw [modify_congr (g := fun y => y) hx (ih hs)]
    have : t.args.modify i.toNat (fun y => y) = t.args := by
      apply List.ext_getElem?
      intro j
      rw [List.getElem?_modify]
      split <;> simp
    rw [this, T.eta]
theorem T.at_put_apart {t s : T} (u : T) {p q : List Int} (h : t.at p = some s) (ha : apartB p q = true) : (t.put u p).at q = t.at q := by
  simp only [apartB, Bool.and_eq_true, Bool.not_eq_true', ← Bool.not_eq_true, underB_iff] at ha
  obtain ⟨ha1, ha2⟩ := ha
  induction p generalizing t q with
  | nil => exact absurd (List.nil_prefix) ha1
  | cons i p ih =>
    obtain ⟨h0, h1, x, hx, hs⟩ := T.at_cons h
    cases q with
    | nil => exact absurd (List.nil_prefix) ha2
    | cons j q =>
      simp only [T.put, T.at, T.args_node, List.length_modify]
      by_cases hj : j < 0 ∨ (t.args.length : Int) ≤ j
      · rw [if_pos hj, if_pos hj]
      · rw [if_neg hj, if_neg hj, List.getElem?_modify]
        by_cases e : i = j
        · subst e
          rw [hx]
          simp only [if_true, Option.map_eq_map, Option.map_some, Option.bind_some]
          exact ih hs (fun hp => ha1 (by rw [List.cons_prefix_cons]; exact ⟨rfl, hp⟩)) (fun hp => ha2 (by rw [List.cons_prefix_cons]; exact ⟨rfl, hp⟩))
        · have hne : ¬ i.toNat = j.toNat := by omega
          simp [hne]

theorem var_alloc {w0 w' W : World} (h : Below w0.heap.size w0 w') (hd : Int) (a : Option Addr) (n c : Nat) (hW : Below (w'.alloc (tmCells hd a n c)).heap.size (w'.alloc (tmCells hd a n c)) W) :
    W.cell? ⟨w'.heap.size, 0, none⟩ = some (.int .i64 hd) ∧ W.cell? ⟨w'.heap.size, 1, none⟩ = some (.slice a n c) ∧ Below w0.heap.size w0 W ∧ Below w'.heap.size w' W := by
  refine ⟨(hW.cell (p := ⟨w'.heap.size, 0, none⟩) (by simp)).trans (by simp [go_sem]), (hW.cell (p := ⟨w'.heap.size, 1, none⟩) (by simp)).trans (by simp [go_sem]), ?_, ?_⟩
  · exact (h.alloc h.size _).trans (hW.mono (by have := h.size; simp; omega))
  · exact ((Below.refl _ _).alloc (Nat.le_refl _) _).trans (hW.mono (by simp))

/-- The rest of PlacePut behind the parts of the two terms at the other place: both are the same. -/
theorem sameAt_any (x y : T) (h : x = y) (hs : x.size ≤ 1000000) (n₀ : Nat) (a : Option Addr) (c : Nat) (a' : Option Addr) (c' : Nat) (w : World) (hn : n₀ ≤ w.heap.size) (hA : IsArgs n₀ w x.args a c) (hB : IsArgs n₀ w y.args a' c') :
    Calls Try.prog 20 #[tm x.head a x.args.length c, tm y.head a' y.args.length c'] w fun e w' => e = .returned (.bool true) ∧ Below w.heap.size w w' := by
  subst h
  refine (refSame_any x x hs hs n₀ a c a' c' w hn hA hB).mono fun e w' hh => ⟨?_, hh.2⟩
  rw [hh.1, T.cmp_self]; rfl

/-- All that is known of the arguments in a later world. -/
structure PutE (t u : T) (p q : List Int) (a : Option Addr) (c : Nat) (au : Option Addr) (cu : Nat) (ap : Option Addr) (cp : Nat) (aq : Option Addr) (cq : Nat) (w : World) (W : World) : Prop where
  t0 : W.cell? ⟨w.heap.size, 0, none⟩ = some (.int .i64 t.head)
  t1 : W.cell? ⟨w.heap.size, 1, none⟩ = some (.slice a t.args.length c)
  u0 : W.cell? ⟨w.heap.size + 1, 0, none⟩ = some (.int .i64 u.head)
  u1 : W.cell? ⟨w.heap.size + 1, 1, none⟩ = some (.slice au u.args.length cu)
  below : Below w.heap.size w W
  tA : IsArgs W.heap.size W t.args a c
  uA : IsArgs W.heap.size W u.args au cu
  pI : IsIs W.heap.size W p ap cp
  qI : IsIs W.heap.size W q aq cq

theorem putE_of {t u : T} {p q : List Int} {a : Option Addr} {c : Nat} {au : Option Addr} {cu : Nat} {ap : Option Addr} {cp : Nat} {aq : Option Addr} {cq : Nat} {w : World} (hA : IsArgs w.heap.size w t.args a c) (hU : IsArgs w.heap.size w u.args au cu) (hP : IsIs w.heap.size w p ap cp) (hQ : IsIs w.heap.size w q aq cq) (W : World)
    (hW : Below ((w.alloc (tmCells t.head a t.args.length c)).alloc (tmCells u.head au u.args.length cu)).heap.size ((w.alloc (tmCells t.head a t.args.length c)).alloc (tmCells u.head au u.args.length cu)) W) : PutE t u p q a c au cu ap cp aq cq w W := by
  have hb : Below w.heap.size w W := (((Below.refl _ w).alloc (Nat.le_refl _) _).alloc (by simp) _).trans (hW.mono (by simp; omega))
  exact ⟨(hW.cell (p := ⟨w.heap.size, 0, none⟩) (by simp; omega)).trans (by simp [go_sem]), (hW.cell (p := ⟨w.heap.size, 1, none⟩) (by simp; omega)).trans (by simp [go_sem]), (hW.cell (p := ⟨w.heap.size + 1, 0, none⟩) (by simp)).trans (by simp [go_sem]), (hW.cell (p := ⟨w.heap.size + 1, 1, none⟩) (by simp)).trans (by simp [go_sem]), hb,
    (hA.below hb).mono hb.size, (hU.below hb).mono hb.size, (hP.below hb).mono hb.size, (hQ.below hb).mono hb.size⟩

/-- A variable that holds a term, in later worlds. -/
theorem var_term {w0 w' : World} (h : Below w0.heap.size w0 w') (x : T) (a : Option Addr) (c : Nat) (hA : IsArgs w'.heap.size w' x.args a c) (W : World) (hW : Below (w'.alloc (tmCells x.head a x.args.length c)).heap.size (w'.alloc (tmCells x.head a x.args.length c)) W) :
    W.cell? ⟨w'.heap.size, 0, none⟩ = some (.int .i64 x.head) ∧ W.cell? ⟨w'.heap.size, 1, none⟩ = some (.slice a x.args.length c) ∧ Below w0.heap.size w0 W ∧ IsArgs W.heap.size W x.args a c := by
  obtain ⟨h1, h2, h3, h4⟩ := var_alloc h x.head a x.args.length c hW
  exact ⟨h1, h2, h3, (hA.below h4).mono h4.size⟩

def Z0 : T := .node 0 []

end Go.Proofs.Ytdigccbffphilaa
