/- The walk of PlacePut. -/
import Derived.Test.YtgocfiahlbgjjaaAw2
import Derived.Test.YtgocfiahlbgjjaaRef
import Derived.Test.YtgocfiahlbgjjaaOrd
import Derived.Test.YtgocfiahlbgjjaaCount
namespace Go.Proofs.Ytgocfiahlbgjjaa
set_option linter.unusedVariables false
set_option linter.unusedSimpArgs false
open Go.RowKit

theorem T.args_node (h : Int) (ts : List T) : (T.node h ts).args = ts := rfl
theorem T.at_cons {t s : T} {i : Int} {p : List Int} (h : t.at (i :: p) = some s) : 0 ≤ i ∧ i < t.args.length ∧ ∃ x, t.args[i.toNat]? = some x ∧ x.at p = some s := by
  simp only [T.at] at h
  split at h
  · cases h
  · cases hx : t.args[i.toNat]? with
    | none => rw [hx] at h; cases h
    | some x => rw [hx] at h; exact ⟨by omega, by omega, x, rfl, h⟩
theorem T.at_put_same {t s : T} (u : T) {p : List Int} (h : t.at p = some s) : (t.put u p).at p = some u := by
  induction p generalizing t with
  | nil => simp [T.put, T.at]
  | cons i p ih =>
    obtain ⟨h0, h1, x, hx, hs⟩ := T.at_cons h
    have hm : (t.args.modify i.toNat (fun y => y.put u p))[i.toNat]? = some (x.put u p) := by rw [List.getElem?_modify, hx]; simp
    simp only [T.put, T.at, T.args_node, List.length_modify, hm, Option.bind_some]
    rw [if_neg (by omega)]
    exact ih hs
theorem T.put_self {t s : T} {p : List Int} (h : t.at p = some s) : t.put s p = t := by
  induction p generalizing t with
  | nil => simp [T.at] at h; subst h; rfl
  | cons i p ih =>
    obtain ⟨h0, h1, x, hx, hs⟩ := T.at_cons h
    simp only [T.put]
    rw [modify_congr (g := fun y => y) hx (ih hs)]
    have : t.args.modify i.toNat (fun y => y) = t.args := by
      apply List.ext_getElem?
      intro j
      rw [List.getElem?_modify]
      split <;> simp
    rw [this, T.eta]
theorem T.at_put_apart {t s : T} (u : T) {p q : List Int} (h : t.at p = some s) (ha : apartB p q = true) : (t.put u p).at q = t.at q := by
  simp only [apartB, Bool.and_eq_true, Bool.not_eq_true', ← Bool.not_eq_true, underB_iff] at ha
  obtain ⟨ha1, ha2⟩ := ha
  induction p generalizing t q with
  | nil => exact absurd (List.nil_prefix) ha1
  | cons i p ih =>
    obtain ⟨h0, h1, x, hx, hs⟩ := T.at_cons h
    cases q with
    | nil => exact absurd (List.nil_prefix) ha2
    | cons j q =>
      simp only [T.put, T.at, T.args_node, List.length_modify]
      by_cases hj : j < 0 ∨ (t.args.length : Int) ≤ j
      · rw [if_pos hj, if_pos hj]
      · rw [if_neg hj, if_neg hj, List.getElem?_modify]
        by_cases e : i = j
        · subst e
          rw [hx]
          simp only [if_true, Option.map_eq_map, Option.map_some, Option.bind_some]
          exact ih hs (fun hp => ha1 (by rw [List.cons_prefix_cons]; exact ⟨rfl, hp⟩)) (fun hp => ha2 (by rw [List.cons_prefix_cons]; exact ⟨rfl, hp⟩))
        · have hne : ¬ i.toNat = j.toNat := by omega
          simp [hne]

theorem var_alloc {w0 w' W : World} (h : Below w0.heap.size w0 w') (hd : Int) (a : Option Addr) (n c : Nat) (hW : Below (w'.alloc (tmCells hd a n c)).heap.size (w'.alloc (tmCells hd a n c)) W) :
    W.cell? ⟨w'.heap.size, 0, none⟩ = some (.int .i64 hd) ∧ W.cell? ⟨w'.heap.size, 1, none⟩ = some (.slice a n c) ∧ Below w0.heap.size w0 W ∧ Below w'.heap.size w' W := by
  refine ⟨(hW.cell (p := ⟨w'.heap.size, 0, none⟩) (by simp)).trans (by simp [go_sem]), (hW.cell (p := ⟨w'.heap.size, 1, none⟩) (by simp)).trans (by simp [go_sem]), ?_, ?_⟩
  · exact (h.alloc h.size _).trans (hW.mono (by have := h.size; simp; omega))
  · exact ((Below.refl _ _).alloc (Nat.le_refl _) _).trans (hW.mono (by simp))

/-- The rest of PlacePut behind the parts of the two terms at the other place: both are the same. -/
theorem sameAt_any (x y : T) (h : x = y) (hs : x.size ≤ 1000000) (n₀ : Nat) (a : Option Addr) (c : Nat) (a' : Option Addr) (c' : Nat) (w : World) (hn : n₀ ≤ w.heap.size) (hA : IsArgs n₀ w x.args a c) (hB : IsArgs n₀ w y.args a' c') :
    Calls Try.prog 15 #[tm x.head a x.args.length c, tm y.head a' y.args.length c'] w fun e w' => e = .returned (.bool true) ∧ Below w.heap.size w w' := by
  subst h
  refine (refSame_any x x hs hs n₀ a c a' c' w hn hA hB).mono fun e w' hh => ⟨?_, hh.2⟩
  rw [hh.1, T.cmp_self]; rfl

/-- All that is known of the arguments in a later world. -/
structure PutE (t u : T) (p q : List Int) (a : Option Addr) (c : Nat) (au : Option Addr) (cu : Nat) (ap : Option Addr) (cp : Nat) (aq : Option Addr) (cq : Nat) (w : World) (W : World) : Prop where
  t0 : W.cell? ⟨w.heap.size, 0, none⟩ = some (.int .i64 t.head)
  t1 : W.cell? ⟨w.heap.size, 1, none⟩ = some (.slice a t.args.length c)
  u0 : W.cell? ⟨w.heap.size + 1, 0, none⟩ = some (.int .i64 u.head)
  u1 : W.cell? ⟨w.heap.size + 1, 1, none⟩ = some (.slice au u.args.length cu)
  below : Below w.heap.size w W
  tA : IsArgs W.heap.size W t.args a c
  uA : IsArgs W.heap.size W u.args au cu
  pI : IsIs W.heap.size W p ap cp
  qI : IsIs W.heap.size W q aq cq

theorem putE_of {t u : T} {p q : List Int} {a : Option Addr} {c : Nat} {au : Option Addr} {cu : Nat} {ap : Option Addr} {cp : Nat} {aq : Option Addr} {cq : Nat} {w : World} (hA : IsArgs w.heap.size w t.args a c) (hU : IsArgs w.heap.size w u.args au cu) (hP : IsIs w.heap.size w p ap cp) (hQ : IsIs w.heap.size w q aq cq) (W : World)
    (hW : Below ((w.alloc (tmCells t.head a t.args.length c)).alloc (tmCells u.head au u.args.length cu)).heap.size ((w.alloc (tmCells t.head a t.args.length c)).alloc (tmCells u.head au u.args.length cu)) W) : PutE t u p q a c au cu ap cp aq cq w W := by
  have hb : Below w.heap.size w W := (((Below.refl _ w).alloc (Nat.le_refl _) _).alloc (by simp) _).trans (hW.mono (by simp; omega))
  exact ⟨(hW.cell (p := ⟨w.heap.size, 0, none⟩) (by simp; omega)).trans (by simp [go_sem]), (hW.cell (p := ⟨w.heap.size, 1, none⟩) (by simp; omega)).trans (by simp [go_sem]), (hW.cell (p := ⟨w.heap.size + 1, 0, none⟩) (by simp)).trans (by simp [go_sem]), (hW.cell (p := ⟨w.heap.size + 1, 1, none⟩) (by simp)).trans (by simp [go_sem]), hb,
    (hA.below hb).mono hb.size, (hU.below hb).mono hb.size, (hP.below hb).mono hb.size, (hQ.below hb).mono hb.size⟩

/-- A variable that holds a term, in later worlds. -/
theorem var_term {w0 w' : World} (h : Below w0.heap.size w0 w') (x : T) (a : Option Addr) (c : Nat) (hA : IsArgs w'.heap.size w' x.args a c) (W : World) (hW : Below (w'.alloc (tmCells x.head a x.args.length c)).heap.size (w'.alloc (tmCells x.head a x.args.length c)) W) :
    W.cell? ⟨w'.heap.size, 0, none⟩ = some (.int .i64 x.head) ∧ W.cell? ⟨w'.heap.size, 1, none⟩ = some (.slice a x.args.length c) ∧ Below w0.heap.size w0 W ∧ IsArgs W.heap.size W x.args a c := by
  obtain ⟨h1, h2, h3, h4⟩ := var_alloc h x.head a x.args.length c hW
  exact ⟨h1, h2, h3, (hA.below h4).mono h4.size⟩

def Z0 : T := .node 0 []

set_option maxRecDepth 100000 in
set_option maxHeartbeats 4000000 in
theorem placePut_walk (t : T) (p q : List Int) (u : T) (a : Option Addr) (c : Nat) (ap : Option Addr) (cp : Nat) (aq : Option Addr) (cq : Nat) (au : Option Addr) (cu : Nat) (w : World) (htw : (Lit.int .i64 t.head).wf = true) (huw : (Lit.int .i64 u.head).wf = true) (hA : IsArgs w.heap.size w t.args a c) (hP : IsIs w.heap.size w p ap cp) (hQ : IsIs w.heap.size w q aq cq) (hU : IsArgs w.heap.size w u.args au cu) :
    Calls Try.prog 9 #[tm t.head a t.args.length c, .slice ap p.length cp, .slice aq q.length cq, tm u.head au u.args.length cu] w fun e w' => e = .returned (.bool true) ∧ Below w.heap.size w w' := by
  have HTW := Lib.hid htw
  have HUW := Lib.hid huw
  have hp1 : p.length ≤ cp ∧ cp ≤ maxLen := ⟨hP.1, hP.2.1⟩
  have hq1 : q.length ≤ cq ∧ cq ≤ maxLen := ⟨hQ.1, hQ.2.1⟩
  have HPL := Lib.hid hp1
  have HQL := Lib.hid hq1
  have E := Lib.hid (putE_of hA hU hP hQ)
  clear htw huw hA hP hQ hU hp1 hq1
  go_enter Try.func9, Try.ntmps9
  go_wp2_with fail
  generalize (w.alloc (tmCells t.head a t.args.length c)).alloc (tmCells u.head au u.args.length cu) = wB at E ⊢
  have e0 := E.out wB (Below.refl _ _)
  refine (few2_any t p wB.heap.size a c ap cp wB (Nat.le_refl _) e0.tA HPL.out.1 HPL.out.2).mono ?_
  rintro e w1 ⟨rfl, hb⟩
  clear e0
  have hfew : (decide (t.size ≤ 500) && decide (p.length ≤ 100)) = true → t.size ≤ 500 := by simp; intros; assumption
  generalize (decide (t.size ≤ 500) && decide (p.length ≤ 100)) = f1 at hfew ⊢
  cases f1
  case false =>
    have HQ := Lib.hid (E.out w1 hb).below
    clear hb hfew
    go_wp2
    go_ret
    exact ⟨rfl, HQ.out⟩
  have hts := hfew rfl
  clear hfew
  have HQ := Lib.hid hb
  obtain ⟨t0, t1, u0, u1, _, _, _, _, _⟩ := E.out w1 hb
  clear hb
  go_wp2_with fail
  have e1 := E.out w1 HQ.out
  clear t0 t1 u0 u1
  refine (few2_any u q w1.heap.size au cu aq cq w1 (Nat.le_refl _) e1.uA HQL.out.1 HQL.out.2).mono ?_
  rintro e w2 ⟨rfl, hb⟩
  clear e1
  have hb := HQ.out.trans (hb.mono HQ.out.size)
  have hfew : (decide (u.size ≤ 500) && decide (q.length ≤ 100)) = true → u.size ≤ 500 := by simp; intros; assumption
  generalize (decide (u.size ≤ 500) && decide (q.length ≤ 100)) = f2 at hfew ⊢
  clear HQ
  cases f2
  case false =>
    have HQ := Lib.hid (E.out w2 hb).below
    clear hb hfew
    go_wp2
    go_ret
    exact ⟨rfl, HQ.out⟩
  have hus := hfew rfl
  clear hfew
  have HQ := Lib.hid hb
  obtain ⟨t0, t1, u0, u1, _, _, _, _, _⟩ := E.out w2 hb
  clear hb
  go_wp2_with fail
  clear t0 t1 u0 u1
  have e2 := E.out w2 HQ.out
  refine (put_any t (by omega) p u w2.heap.size a c ap cp au cu w2 (Nat.le_refl _) HTW.out e2.tA e2.pI HUW.out e2.uA).mono ?_
  clear e2
  rintro e w4 (⟨s, av, cv, hat, rfl, hvw, hvA, hb⟩ | ⟨hat, rfl, hb⟩)
  case inr =>
    have hb := HQ.out.trans (hb.mono HQ.out.size)
    have HB := Lib.hid (show Below wB.heap.size wB (w4.alloc (tmCells 0 none 0 0)) from hb.alloc hb.size _)
    have HAT := Lib.hid hat
    clear hb HQ hat
    obtain ⟨t0, t1, u0, u1, _, _, _, _, _⟩ := E.out _ HB.out
    go_wp2_with fail
    clear t0 t1 u0 u1
    generalize w4.alloc (tmCells 0 none 0 0) = w5 at HB ⊢
    have e2 := E.out w5 HB.out
    refine (at_any t p w5.heap.size a c ap cp w5 (Nat.le_refl _) HTW.out e2.tA e2.pI).mono ?_
    clear e2
    rintro e w6 (⟨s, av, cv, hat, _⟩ | ⟨_, rfl, hb⟩)
    · rw [HAT.out] at hat; cases hat
    have HB6 := Lib.hid (HB.out.trans (hb.mono HB.out.size))
    clear hb HB
    have HB7 := Lib.hid (show Below wB.heap.size wB (w6.alloc (tmCells 0 none 0 0)) from HB6.out.alloc HB6.out.size _)
    go_wp2_with fail
    refine (awake2_any _).mono ?_
    rintro e w8 ⟨rfl, hb⟩
    have HW8 := Lib.hid (E.out w8 (HB7.out.trans (hb.mono HB7.out.size))).below
    clear hb
    go_wp2
    go_ret
    exact ⟨by simp, HW8.out⟩
  have hvp := T.at_put_same u hat
  have hvq := fun h => T.at_put_apart (q := q) u hat h
  have hts2 := T.put_self hat
  have hss := T.at_size hat
  generalize t.put u p = v at hvp hvq hvw hvA ⊢
  have hb := HQ.out.trans (hb.mono HQ.out.size)
  have HAT := Lib.hid hat
  have HVP := Lib.hid hvp
  have HVQ := Lib.hid hvq
  have HPS := Lib.hid hts2
  have HVW := Lib.hid hvw
  have E1 := Lib.hid (var_term hb v av cv hvA)
  have HB1 := Lib.hid (show Below wB.heap.size wB (w4.alloc (tmCells v.head av v.args.length cv)) from hb.alloc hb.size _)
  clear hb HQ hat hvp hvq hts2 hvw hvA
  obtain ⟨t0, t1, u0, u1, _, _, _, _, _⟩ := E.out _ HB1.out
  go_wp2_with fail
  clear t0 t1 u0 u1
  generalize w4.alloc (tmCells v.head av v.args.length cv) = w5 at HB1 E1 ⊢
  generalize w4.heap.size = bv at E1 ⊢
  have e2 := E.out w5 HB1.out
  refine (at_any t p w5.heap.size a c ap cp w5 (Nat.le_refl _) HTW.out e2.tA e2.pI).mono ?_
  clear e2
  rintro e w6 (⟨s', ao, co, hat, rfl, how, hoA, hb⟩ | ⟨hno, _⟩)
  case inr => rw [HAT.out] at hno; cases hno
  obtain rfl : s = s' := by rw [HAT.out] at hat; exact Option.some.inj hat
  have HOW := Lib.hid how
  have E2 := Lib.hid (var_term hb s ao co (hoA.mono hb.size))
  have HB2 := Lib.hid (show Below w5.heap.size w5 (w6.alloc (tmCells s.head ao s.args.length co)) from hb.alloc hb.size _)
  clear hat how hoA hb
  obtain ⟨v0, v1, _, _⟩ := E1.out _ HB2.out
  go_wp2_with fail
  clear v0 v1
  generalize w6.alloc (tmCells s.head ao s.args.length co) = w7 at HB2 E2 ⊢
  generalize w6.heap.size = bo at E2 ⊢
  have e2 := E.out w7 (E1.out w7 HB2.out).2.2.1
  refine (at_any v p w7.heap.size av cv ap cp w7 (Nat.le_refl _) HVW.out (E1.out w7 HB2.out).2.2.2 e2.pI).mono ?_
  clear e2
  rintro e w8 (⟨s', an, cn, hat, rfl, hnw, hnA, hb⟩ | ⟨hno, _⟩)
  case inr => rw [HVP.out] at hno; cases hno
  obtain rfl : u = s' := by rw [HVP.out] at hat; exact Option.some.inj hat
  have E3 := Lib.hid (var_term hb u an cn (hnA.mono hb.size))
  have HB3 := Lib.hid (show Below w7.heap.size w7 (w8.alloc (tmCells u.head an u.args.length cn)) from hb.alloc hb.size _)
  clear hat hnw hnA hb
  obtain ⟨o0, o1, hwo, _⟩ := E2.out _ HB3.out
  obtain ⟨t0, t1, _, _, _, _, _, _, _⟩ := E.out _ (E1.out _ hwo).2.2.1
  clear hwo
  go_wp2_with fail
  clear t0 t1 o0 o1
  generalize w8.alloc (tmCells u.head an u.args.length cn) = w9 at HB3 E3 ⊢
  generalize w8.heap.size = bn at E3 ⊢
  obtain ⟨_, _, hwo, hoA⟩ := E2.out w9 HB3.out
  have e2 := E.out w9 (E1.out w9 hwo).2.2.1
  refine (put_any t (by omega) p s w9.heap.size a c ap cp ao co w9 (Nat.le_refl _) HTW.out e2.tA e2.pI HOW.out hoA).mono ?_
  clear e2 hwo hoA
  rintro e w10 (⟨s', am, cm, hat, rfl, hmw, hmA, hb⟩ | ⟨hno, _⟩)
  case inr => rw [HAT.out] at hno; cases hno
  rw [HPS.out] at hmw hmA ⊢
  have E4 := Lib.hid (var_term hb t am cm hmA)
  have HB4 := Lib.hid (show Below w9.heap.size w9 (w10.alloc (tmCells t.head am t.args.length cm)) from hb.alloc hb.size _)
  clear hat hmw hmA hb
  have KEY := Lib.hid (show ∀ W, Below (w10.alloc (tmCells t.head am t.args.length cm)).heap.size (w10.alloc (tmCells t.head am t.args.length cm)) W → Below wB.heap.size wB W ∧ Below w5.heap.size w5 W ∧ Below w9.heap.size w9 W from fun W hW => by
    have h9 := (E4.out W hW).2.2.1
    have h7 := (E3.out W h9).2.2.1
    have h5 := (E2.out W h7).2.2.1
    exact ⟨(E1.out W h5).2.2.1, h5, h9⟩)
  obtain ⟨k0, k5, k9⟩ := KEY.out _ (Below.refl _ _)
  obtain ⟨n0, n1, _, _⟩ := E3.out _ k9
  obtain ⟨t0, t1, u0, u1, _, _, _, _, _⟩ := E.out _ k0
  clear k0 k5 k9
  go_wp2_with fail
  clear n0 n1 t0 t1 u0 u1
  generalize w10.alloc (tmCells t.head am t.args.length cm) = w11 at HB4 E4 KEY ⊢
  generalize w10.heap.size = bm at E4 ⊢
  obtain ⟨k0, k5, k9⟩ := KEY.out w11 (Below.refl _ _)
  refine (sameAt_any u u rfl (by omega) w11.heap.size an cn au cu w11 (Nat.le_refl _) (E3.out w11 k9).2.2.2 (E.out w11 k0).uA).mono ?_
  clear k0 k5 k9
  rintro e w12 ⟨rfl, hb⟩
  have HW := Lib.hid hb
  clear hb
  obtain ⟨k0, k5, k9⟩ := KEY.out w12 HW.out
  obtain ⟨m0, m1, _, _⟩ := E4.out _ HW.out
  obtain ⟨t0, t1, _, _, _, _, _, _, _⟩ := E.out _ k0
  clear k0 k5 k9
  go_wp2_with fail
  clear m0 m1 t0 t1
  obtain ⟨k0, k5, k9⟩ := KEY.out w12 HW.out
  refine (sameAt_any t t rfl (by omega) w12.heap.size am cm a c w12 (Nat.le_refl _) (E4.out w12 HW.out).2.2.2 (E.out w12 k0).tA).mono ?_
  clear k0 k5 k9
  rintro e w13 ⟨rfl, hb⟩
  have hb := HW.out.trans (hb.mono HW.out.size)
  clear HW
  have HW := Lib.hid hb
  clear hb
  go_wp2_with fail
  obtain ⟨k0, k5, k9⟩ := KEY.out w13 HW.out
  have e2 := E.out w13 k0
  refine (apart_any p q w13.heap.size ap cp aq cq w13 (Nat.le_refl _) e2.pI e2.qI).mono ?_
  clear k0 k5 k9 e2
  rintro e w14 ⟨rfl, hb⟩
  have hb := HW.out.trans (hb.mono HW.out.size)
  clear HW
  have HW := Lib.hid hb
  clear hb
  cases hap : apartB p q
  · clear hap
    go_wp2_with fail
    refine (awake2_any _).mono ?_
    rintro e w15 ⟨rfl, hb⟩
    have HW8 := Lib.hid (E.out w15 (KEY.out _ (HW.out.trans (hb.mono HW.out.size))).1).below
    clear hb
    go_wp2
    go_ret
    exact ⟨by simp, HW8.out⟩
  have hvq := HVQ.out hap
  have HVQ' := Lib.hid hvq
  clear hvq hap
  obtain ⟨k0, k5, k9⟩ := KEY.out w14 HW.out
  obtain ⟨t0, t1, _, _, _, _, _, _, _⟩ := E.out _ k0
  clear k0 k5 k9
  go_wp2_with fail
  clear t0 t1
  obtain ⟨k0, k5, k9⟩ := KEY.out w14 HW.out
  have e2 := E.out w14 k0
  refine (at_any t q w14.heap.size a c aq cq w14 (Nat.le_refl _) HTW.out e2.tA e2.qI).mono ?_
  clear k0 k5 k9 e2
  rintro e w15 h15
  rcases h15 with h15 | h15
  · obtain ⟨x, a15, c15, hat, rfl, hxw, hxA, hb⟩ := h15
    have hxs := T.at_size hat
    have E5 := Lib.hid (var_term hb x a15 c15 (hxA.mono hb.size))
    have HB5 := Lib.hid (show Below w14.heap.size w14 (w15.alloc (tmCells x.head a15 x.args.length c15)) from hb.alloc hb.size _)
    have HATq := Lib.hid hat
    clear hat hb
    clear hxw hxA
    obtain ⟨k0, k5, k9⟩ := KEY.out _ (HW.out.trans (HB5.out.mono HW.out.size))
    obtain ⟨v0, v1, _, _⟩ := E1.out _ k5
    clear k0 k5 k9
    go_wp2_with fail
    clear v0 v1
    generalize w15.alloc (tmCells x.head a15 x.args.length c15) = w16 at HB5 E5 ⊢
    generalize w15.heap.size = ba at E5 ⊢
    obtain ⟨k0, k5, k9⟩ := KEY.out w16 (HW.out.trans (HB5.out.mono HW.out.size))
    have e2 := E.out w16 k0
    refine (at_any v q w16.heap.size av cv aq cq w16 (Nat.le_refl _) HVW.out (E1.out w16 k5).2.2.2 e2.qI).mono ?_
    clear k0 k5 k9 e2
    rintro e w17 (⟨y, a17, c17, hat, rfl, hyw, hyA, hb⟩ | ⟨hno, _⟩)
    case inr => rw [HVQ'.out, HATq.out] at hno; cases hno
    obtain rfl : x = y := by rw [HVQ'.out, HATq.out] at hat; exact Option.some.inj hat
    have E6 := Lib.hid (var_term hb x a17 c17 (hyA.mono hb.size))
    have HB6 := Lib.hid (show Below w16.heap.size w16 (w17.alloc (tmCells x.head a17 x.args.length c17)) from hb.alloc hb.size _)
    clear hat hyw hyA hb
    go_wp2_with fail
    generalize w17.alloc (tmCells x.head a17 x.args.length c17) = w18 at HB6 E6 ⊢
    generalize w17.heap.size = bb at E6 ⊢
    refine (awake2_any w18).mono ?_
    rintro e w19 ⟨rfl, hw19⟩
    have HW19 := Lib.hid hw19
    obtain ⟨y0, y1, k16, _⟩ := E6.out w19 hw19
    obtain ⟨x0, x1, k14, _⟩ := E5.out w19 k16
    clear k16 k14 hw19
    go_wp2_with fail
    clear x0 x1 y0 y1
    have hw19 := HW19.out
    obtain ⟨_, _, k16, _⟩ := E6.out w19 hw19
    refine (sameAt_any x x rfl (by omega) w19.heap.size a15 c15 a17 c17 w19 (Nat.le_refl _) (E5.out w19 k16).2.2.2 (E6.out w19 hw19).2.2.2).mono ?_
    clear k16 hw19
    rintro e w20 ⟨rfl, hb⟩
    have hb := HW19.out.trans (hb.mono HW19.out.size)
    have k14 := (E5.out w20 (E6.out w20 hb).2.2.1).2.2.1
    have HF := Lib.hid (E.out w20 (KEY.out w20 (HW.out.trans (k14.mono HW.out.size))).1).below
    clear hb k14
    go_wp2
    go_ret
    exact ⟨by simp, HF.out⟩
  · obtain ⟨hat, rfl, hb⟩ := h15
    have E5 := Lib.hid (show ∀ W, Below (w15.alloc (tmCells 0 none 0 0)).heap.size (w15.alloc (tmCells 0 none 0 0)) W → W.cell? ⟨w15.heap.size, 0, none⟩ = some (.int .i64 0) ∧ W.cell? ⟨w15.heap.size, 1, none⟩ = some (.slice none 0 0) ∧ Below w14.heap.size w14 W ∧ IsArgs W.heap.size W Z0.args none 0 from fun W hW => by
      obtain ⟨h1, h2, h3, _⟩ := var_alloc hb 0 none 0 0 hW
      exact ⟨h1, h2, h3, by simp [Z0, T.args], by simp [maxLen], .inl rfl⟩)
    have HB5 := Lib.hid (show Below w14.heap.size w14 (w15.alloc (tmCells 0 none 0 0)) from hb.alloc hb.size _)
    have HATq := Lib.hid hat
    clear hat hb
    skip
    obtain ⟨k0, k5, k9⟩ := KEY.out _ (HW.out.trans (HB5.out.mono HW.out.size))
    obtain ⟨v0, v1, _, _⟩ := E1.out _ k5
    clear k0 k5 k9
    go_wp2_with fail
    clear v0 v1
    generalize w15.alloc (tmCells 0 none 0 0) = w16 at HB5 E5 ⊢
    generalize w15.heap.size = ba at E5 ⊢
    obtain ⟨k0, k5, k9⟩ := KEY.out w16 (HW.out.trans (HB5.out.mono HW.out.size))
    have e2 := E.out w16 k0
    refine (at_any v q w16.heap.size av cv aq cq w16 (Nat.le_refl _) HVW.out (E1.out w16 k5).2.2.2 e2.qI).mono ?_
    clear k0 k5 k9 e2
    rintro e w17 (⟨y, a17, c17, hat, _⟩ | ⟨_, rfl, hb⟩)
    · rw [HVQ'.out, HATq.out] at hat; cases hat
    have E6 := Lib.hid (show ∀ W, Below (w17.alloc (tmCells 0 none 0 0)).heap.size (w17.alloc (tmCells 0 none 0 0)) W → W.cell? ⟨w17.heap.size, 0, none⟩ = some (.int .i64 0) ∧ W.cell? ⟨w17.heap.size, 1, none⟩ = some (.slice none 0 0) ∧ Below w16.heap.size w16 W ∧ IsArgs W.heap.size W Z0.args none 0 from fun W hW => by
      obtain ⟨h1, h2, h3, _⟩ := var_alloc hb 0 none 0 0 hW
      exact ⟨h1, h2, h3, by simp [Z0, T.args], by simp [maxLen], .inl rfl⟩)
    have HB6 := Lib.hid (show Below w16.heap.size w16 (w17.alloc (tmCells 0 none 0 0)) from hb.alloc hb.size _)
    clear hb
    go_wp2_with fail
    generalize w17.alloc (tmCells 0 none 0 0) = w18 at HB6 E6 ⊢
    generalize w17.heap.size = bb at E6 ⊢
    refine (awake2_any w18).mono ?_
    rintro e w19 ⟨rfl, hw19⟩
    have HW19 := Lib.hid hw19
    obtain ⟨y0, y1, k16, _⟩ := E6.out w19 hw19
    obtain ⟨x0, x1, k14, _⟩ := E5.out w19 k16
    clear k16 k14 hw19
    go_wp2_with fail
    clear x0 x1 y0 y1
    have hw19 := HW19.out
    obtain ⟨_, _, k16, _⟩ := E6.out w19 hw19
    refine (sameAt_any Z0 Z0 rfl (by simp [Z0, T.size, T.sizes]) w19.heap.size none 0 none 0 w19 (Nat.le_refl _) (E5.out w19 k16).2.2.2 (E6.out w19 hw19).2.2.2).mono ?_
    clear k16 hw19
    rintro e w20 ⟨rfl, hb⟩
    have hb := HW19.out.trans (hb.mono HW19.out.size)
    have k14 := (E5.out w20 (E6.out w20 hb).2.2.1).2.2.1
    have HF := Lib.hid (E.out w20 (KEY.out w20 (HW.out.trans (k14.mono HW.out.size))).1).below
    clear hb k14
    go_wp2
    go_ret
    exact ⟨by simp, HF.out⟩

end Go.Proofs.Ytgocfiahlbgjjaa
