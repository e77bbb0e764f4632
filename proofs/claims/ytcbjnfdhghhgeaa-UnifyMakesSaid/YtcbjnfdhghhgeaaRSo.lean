/- Contract of the reference's solver. -/
import Derived.Test.YtcbjnfdhghhgeaaRSv
import Derived.Test.YtcbjnfdhghhgeaaSwp
import Derived.Deep.RegionHeld3
import Derived.Deep.CutRange
namespace Go.Proofs.Ytcbjnfdhghhgeaa
set_option linter.unusedVariables false
set_option linter.unusedSimpArgs false
open Go.RowKit

/-- The solver's answer, in memory. -/
def SolPost (x y : T) (w : World) (e : Ending) (w' : World) : Prop :=
  Below w.heap.size w w' ∧ ((∃ (s : Sb) (F : List T) (a : Option Addr) (c : Nat), e = .returned (.tuple #[.slice a s.length c, .bool true]) ∧ RI x y s [] F ∧ IsBs w'.heap.size w' s a c) ∨ (e = .returned (.tuple #[.slice none 0 0, .bool false]) ∧ ∀ θ : Int → T, x.sub θ ≠ y.sub θ))

/-- Between two rounds. -/
def SolI (x y : T) (w : World) (s : Sb) (l : Prs) (v4 v0 : Value) (wr : World) : Prop :=
  (∃ F, RI x y s l F) ∧ (∃ a c, v0 = .slice a l.length c ∧ IsPs wr.heap.size wr l a c) ∧ (∃ a c, v4 = .slice a s.length c ∧ IsBs wr.heap.size wr s a c) ∧ Below w.heap.size w wr

theorem RI.sizes {x y t u : T} {s : Sb} {l : Prs} {F : List T} (h : RI x y s ((t, u) :: l) F) (hx : bad (T.subs 1 x) = false) (hy : bad (T.subs 1 y) = false) (h60 : x.size + y.size ≤ 60) :
    (t.sub (ofS s)).size ≤ 300000000000 ∧ (u.sub (ofS s)).size ≤ 300000000000 ∧ t.size ≤ 300000000000 ∧ u.size ≤ 300000000000 := by
  obtain ⟨⟨n, hn, e⟩, ⟨n', hn', e'⟩⟩ := h.part (t, u) (by simp)
  obtain ⟨g1, g2⟩ := h.good (t, u) (by simp)
  dsimp only at e e' g1 g2
  have h1 := h.small hx hy h60 hn
  have h2 := h.small hx hy h60 hn'
  rw [e] at h1
  rw [e'] at h2
  have h3 := size_le_sub (ofS s) t g1
  have h4 := size_le_sub (ofS s) u g2
  exact ⟨h1, h2, by omega, by omega⟩

theorem RI.of_size {x y : T} {s : Sb} {l : Prs} {F : List T} (h : RI x y s l F) (hx : bad (T.subs 1 x) = false) (hy : bad (T.subs 1 y) = false) (h60 : x.size + y.size ≤ 60) (z : Int) : (ofS s z).size ≤ 300000000000 := by
  cases hb : bnd s z
  · rw [ofS_unbound hb]; simp [vt, T.size, T.sizes]
  · obtain ⟨p, hp, e⟩ := List.mem_map.1 (bnd_mem.1 hb)
    obtain ⟨r0, r1⟩ := h.tri.low p hp
    rw [e] at r0 r1
    rcases h.bnds z r0 r1 hb with h1 | ⟨n, hn, _, e2⟩
    · have hg := h.tri.good_of r0 r1
      rw [(var_range hg h1).2.2]
      simp [vt, T.size, T.sizes]
    · rw [← e2]; exact h.small hx hy h60 hn
theorem isBs_one {W : World} {v : Int} {B : T} {aB : Option Addr} {cB : Nat} (hv : (Lit.int .i64 v).wf = true) (hw : (Lit.int .i64 B.head).wf = true) (hA : IsArgs W.heap.size W B.args aB cB) :
    IsBs (W.alloc (.cells #[.int .i64 v, .int .i64 B.head, .slice aB B.args.length cB] 43)).heap.size (W.alloc (.cells #[.int .i64 v, .int .i64 B.head, .slice aB B.args.length cB] 43)) [(v, B)] (some ⟨W.heap.size, 0, none⟩) 1 := by
  have hb : Below W.heap.size W (W.alloc (.cells #[.int .i64 v, .int .i64 B.head, .slice aB B.args.length cB] 43)) := (Below.refl _ _).alloc (Nat.le_refl _) _
  refine ⟨by simp, by simp [maxLen], .inr ⟨_, _, rfl, by simp, fun j y hy => ?_⟩⟩
  match j, hy with
  | 0, hy =>
    simp at hy
    subst hy
    exact ⟨hv, by simp [go_sem], isT_iff.2 ⟨hw, by simp [go_sem], aB, cB, by simp [go_sem], (hA.below hb).mono hb.size⟩⟩
theorem allV_mem {z : Int} (h0 : 0 ≤ z) (h1 : z ≤ 255) : z ∈ allV := by
  have := List.mem_of_getElem? (allV_get (k := z.toNat) (by omega))
  rwa [show ((z.toNat : Nat) : Int) = z from by omega] at this

theorem len_sizes : ∀ xs : List T, xs.length ≤ T.sizes xs
  | [] => Nat.le_refl _
  | x :: xs => by
    have := len_sizes xs
    have := T.size_pos x
    simp only [List.length_cons, T.sizes]
    omega
theorem len_size (t : T) : t.args.length < t.size := by
  cases t with
  | node h ts =>
    have := len_sizes ts
    simp only [T.args_node, T.size]
    omega
theorem lsum_zip (σ : Int → T) (l : Prs) : ∀ xs ys : List T, xs.length = ys.length → lsum σ (xs.zip ys ++ l) = T.sizes (xs.map (T.sub σ)) + lsum σ l
  | [], [], _ => by simp [T.sizes]
  | a :: xs, b :: ys, h => by
    have := lsum_zip σ l xs ys (by simpa using h)
    simp only [List.zip_cons_cons, List.cons_append, lsum, List.map_cons, T.sizes, this]
    omega
/-- The list of the arguments' pairs that is built up. -/
def ArI (p q : T) (w7 : World) (v i : Value) (W : World) : Prop :=
  ∃ (k : Nat) (xs : List Value), k ≤ p.args.length ∧ i = .int .i64 k ∧ W.ownsRow w7.heap.size 123 4 v k xs ∧ PVals (fun b => b < w7.heap.size) W ((p.args.zip q.args).take k) xs ∧ Below w7.heap.size w7 W
theorem ar_step {p q s1 s2 : T} {w7 wq w6 : World} {k g cap c1 c2 : Nat} {v : Value} {xs : List Value} {a1 a2 : Option Addr} {C : Obj} (hk : k < p.args.length) (h1 : p.args[k]? = some s1) (h2 : q.args[k]? = some s2) (hw1 : (Lit.int .i64 s1.head).wf = true) (hw2 : (Lit.int .i64 s2.head).wf = true)
    (hA1 : IsArgs w7.heap.size w7 s1.args a1 c1) (hA2 : IsArgs w7.heap.size w7 s2.args a2 c2) (hpv : PVals (fun b => b < w7.heap.size) wq ((p.args.zip q.args).take k) xs) (hB : Below w7.heap.size w7 wq) (hown : wq.ownsRow w7.heap.size 123 4 v k xs)
    (hown6 : w6.ownsRow w7.heap.size 123 4 (.slice (some ⟨g, 0, none⟩) (k + 1) cap) (k + 1) (xs ++ [.int .i64 s1.head, .slice a1 s1.args.length c1, .int .i64 s2.head, .slice a2 s2.args.length c2])) (hgrow : (wq.drew.alloc C).grownBy w6 v.ownBlock) :
    ArI p q w7 (.slice (some ⟨g, 0, none⟩) (k + 1) cap) (.int .i64 ((k + 1 : Nat) : Int)) w6 := by
  have hz := hB.size
  have hB6 : Below w7.heap.size w7 w6 := (hB.drew.alloc (show w7.heap.size ≤ wq.drew.heap.size from hz) C).grown hgrow (by simp; exact Nat.le_succ_of_le hz) (fun b hb => (hown.lt b hb).1)
  refine ⟨k + 1, _, by omega, rfl, hown6, ?_, hB6⟩
  have e : (p.args.zip q.args)[k]? = some (s1, s2) := by rw [List.getElem?_zip_eq_some]; exact ⟨h1, h2⟩
  obtain ⟨hl, e'⟩ := List.getElem?_eq_some_iff.1 e
  rw [List.take_succ_eq_append_getElem hl, e']
  exact (hpv.keep (fun b hb => (hB6.block b hb).trans (hB.block b hb).symm) (fun _ h => h)).append (PVals.one hw1 hw2 (isArgsp_lt.2 (hA1.below hB6)) (isArgsp_lt.2 (hA2.below hB6)))

set_option maxRecDepth 100000 in
set_option maxHeartbeats 4000000 in
theorem solve_any (x y : T) (hx : bad (T.subs 1 x) = false) (hy : bad (T.subs 1 y) = false) (h60 : x.size + y.size ≤ 60) (a : Option Addr) (c : Nat) (w : World) (hA : IsPs w.heap.size w [(x, y)] a c) :
    Calls Try.prog 89 #[.slice a 1 c] w (SolPost x y w) := by
  have HA := Lib.hid hA
  clear hA
  go_enter Try.func89, Try.ntmps89
  go_wp2
  go_loopg [0, 4] (rmeas [] [(x, y)]) (fun gk v0 v4 wr => ∃ (s : Sb) (l : Prs), rmeas s l = gk ∧ SolI x y w s l v4 v0 wr)
  case atStart => exact ⟨[], [(x, y)], rfl, ⟨[], RI.start hx hy⟩, ⟨a, c, rfl, HA.out⟩, ⟨none, 0, rfl, IsBs.nil _ _ _ (by simp [maxLen])⟩, Below.refl _ _⟩
  case round =>
    clear HA
    obtain ⟨s, l, hgk, ⟨F, hR⟩, ⟨a0, c0, rfl, hP⟩, ⟨a4, c4, rfl, hS⟩, hB⟩ := hrel
    have HGK := Lib.hid hgk
    have HR := Lib.hid hR
    have HP := Lib.hid hP
    have HS := Lib.hid hS
    have HB := Lib.hid hB
    have hlen := (hR.lsum_small hx hy h60).2
    clear hgk hR hP hS hB
    cases l with
    | nil =>
      go_wp2
      go_ret2
      exact ⟨HB.out, .inl ⟨s, F, a4, c4, rfl, HR.out, HS.out⟩⟩
    | cons p l =>
      obtain ⟨t, u⟩ := p
      have hlen2 : (0 : Int) < ((l.length + 1 : Nat) : Int) := by omega
      obtain ⟨b0, o0, a1, a2, c1, c2, rfl, hb0, htw, huw, d0, d1, d2, d3, hA1, hA2, hP1, hP2⟩ := HP.out.cons
      simp only [List.length_cons] at hlen
      have HA1 := Lib.hid hA1
      have HA2 := Lib.hid hA2
      have HP1 := Lib.hid hP1
      have HP2 := Lib.hid hP2
      have hc0 := HP.out.2.1
      have hc1 := HP.out.1
      simp only [List.length_cons] at hc1
      unfold maxLen at hc0
      have HTW := Lib.hid htw
      have HUW := Lib.hid huw
      clear hA1 hA2 hP1 hP2 htw huw
      simp only [List.length_cons]
      go_wp2_with fail
      obtain ⟨sz1, sz2, sz3, sz4⟩ := HR.out.sizes hx hy h60
      refine (refSub_any s t.size t (Nat.le_refl _) (by omega) wr.heap.size a1 c1 a4 c4 wr (Nat.le_refl _) HTW.out HA1.out HS.out).mono ?_
      rintro e w2 ⟨ap, cp, rfl, hpw, hpA, hb2⟩
      have HX := Lib.hid (show ∃ p, p = t.sub (ofS s) from ⟨_, rfl⟩)
      obtain ⟨p, hp⟩ := HX.out
      rw [← hp] at hpw hpA ⊢
      have HPW := Lib.hid hpw
      have HPA := Lib.hid (show IsArgs w2.heap.size w2 p.args ap cp from hpA.toArgs (fun b hb => by have := hb2.size; rcases hb with hb | hb <;> omega))
      have HB2 := Lib.hid hb2
      have HPE := Lib.hid hp
      have hz2 := hb2.size
      have e0 := (hb2.cell (p := ⟨b0, o0, none⟩) hb0).trans d0
      have e2 := (hb2.cell (p := ⟨b0, o0 + 2, none⟩) hb0).trans d2
      have e3 : w2.cell? ⟨b0, o0 + 2 + 1, none⟩ = _ := (hb2.cell (p := ⟨b0, o0 + 3, none⟩) hb0).trans d3
      have hb02 : b0 < w2.heap.size := by omega
      clear hpw hpA hb2 HX hp d0 d1 d2 d3
      go_wp2_with fail
      generalize hw3 : w2.alloc (.cells #[.int .i64 p.head, .slice ap p.args.length cp] 25) = w3
      have hz3 : w3.heap.size = w2.heap.size + 1 := by rw [← hw3]; simp
      have hb3 : Below w2.heap.size w2 w3 := by rw [← hw3]; exact (Below.refl _ _).alloc (Nat.le_refl _) _
      have f0 : w3.cell? ⟨w2.heap.size, 0, none⟩ = some (.int .i64 p.head) := by rw [← hw3]; simp [go_sem]
      have f1 : w3.cell? ⟨w2.heap.size, 1, none⟩ = some (.slice ap p.args.length cp) := by rw [← hw3]; simp [go_sem]
      have HB3 := Lib.hid (HB2.out.trans (hb3.mono hz2))
      have HPA3 := Lib.hid (show IsArgsp (fun b => b < w2.heap.size ∧ b < w3.heap.size) w3 p.args ap cp from (isArgsp_lt.2 HPA.out).keep (fun b hb => hb3.block b hb) (fun b hb => ⟨hb, by have := hb; omega⟩))
      have fb : w3.heap[w2.heap.size]? = some (.cells #[.int .i64 p.head, .slice ap p.args.length cp] 25 (0, 0)) := by rw [← hw3]; exact heap_alloc_new w2 _
      clear hb3 hw3 e0 e2 e3 hb02 HPA
      refine (refSub_any s u.size u (Nat.le_refl _) (by omega) wr.heap.size a2 c2 a4 c4 w3 (by omega) HUW.out (HA2.out.below HB3.out) (HS.out.below HB3.out)).mono ?_
      rintro e w4 ⟨aq, cq, rfl, hqw, hqA, hb4⟩
      have HX := Lib.hid (show ∃ q, q = u.sub (ofS s) from ⟨_, rfl⟩)
      obtain ⟨q, hq⟩ := HX.out
      rw [← hq] at hqw hqA ⊢
      have HQW := Lib.hid hqw
      have HQA := Lib.hid (show IsArgsp (fun b => b ≠ w2.heap.size ∧ b ≠ w4.heap.size ∧ b < w4.heap.size) w4 q.args aq cq from hqA.mono (fun b hb => by have := hb4.size; rcases hb with hb | hb <;> omega))
      have HB4 := Lib.hid (HB3.out.trans (hb4.mono (by omega)))
      have HQE := Lib.hid hq
      have hz4 := hb4.size
      have HPA4 := Lib.hid (show IsArgsp (fun b => b ≠ w2.heap.size ∧ b ≠ w4.heap.size ∧ b < w4.heap.size) w4 p.args ap cp from HPA3.out.keep (fun b hb => hb4.block b hb.2) (fun b hb => by have := hb.1; omega))
      have g0 := (hb4.cell (p := ⟨w2.heap.size, 0, none⟩) (by simp; omega)).trans f0
      have g1 := (hb4.cell (p := ⟨w2.heap.size, 1, none⟩) (by simp; omega)).trans f1
      have gb := (hb4.block w2.heap.size (by omega)).trans fb
      clear hqw hqA hb4 HX hq f0 f1 HPA3 fb
      have hb24 : w2.heap.size < w4.heap.size := by omega
      go_wp2_with fail
      case' inl =>
        have HP' := Lib.hid (show IsPs wr.heap.size wr l (some ⟨b0, o0, none⟩) 0 from by have := HP2.out (List.eq_nil_of_length_eq_zero (by omega)) (some ⟨b0, o0, none⟩); rwa [show c0 - 1 = 0 from by omega] at this)
        generalize (some (⟨b0, o0, none⟩ : Addr)) = a0' at HP' ⊢
      case' inr =>
        have HP' := Lib.hid HP1.out
        generalize (some (⟨b0, o0 + 4, none⟩ : Addr)) = a0' at HP' ⊢
      all_goals (
        have hb5 : Below w4.heap.size w4 (w4.alloc (.cells #[.int .i64 q.head, .slice aq q.args.length cq] 25)) := (Below.refl _ _).alloc (Nat.le_refl _) _
        have f0 : (w4.alloc (.cells #[.int .i64 q.head, .slice aq q.args.length cq] 25)).cell? ⟨w4.heap.size, 0, none⟩ = some (.int .i64 q.head) := by simp [go_sem]
        have f1 : (w4.alloc (.cells #[.int .i64 q.head, .slice aq q.args.length cq] 25)).cell? ⟨w4.heap.size, 1, none⟩ = some (.slice aq q.args.length cq) := by simp [go_sem]
        have fz0 : (w4.alloc (.cells #[.int .i64 q.head, .slice aq q.args.length cq] 25)).heap[w4.heap.size]? = some (.cells #[.int .i64 q.head, .slice aq q.args.length cq] 25) := heap_alloc_new w4 _
        have hz5 : (w4.alloc (.cells #[.int .i64 q.head, .slice aq q.args.length cq] 25)).heap.size = w4.heap.size + 1 := by simp
        generalize w4.alloc (.cells #[.int .i64 q.head, .slice aq q.args.length cq] 25) = w5 at hb5 f0 f1 fz0 hz5 ⊢
        have LS := Lib.hid (show SolS w wr.heap.size wr w2.heap.size w4.heap.size p q ap cp aq cq s a4 c4 l a0' w5 from by
          have hr : Below wr.heap.size wr w5 := HB4.out.trans (hb5.mono (by omega))
          exact ⟨(hb5.block _ (by omega)).trans gb, fz0, HPA4.out.keep (fun b k => hb5.block b k.2.2) (fun b k => ⟨k.1, k.2.1, by have := k.2.2; omega⟩), HQA.out.keep (fun b k => hb5.block b k.2.2) (fun b k => ⟨k.1, k.2.1, by have := k.2.2; omega⟩),
            HS.out.below hr, fun cc k => k.below hr, HB.out.trans (hr.mono HB.out.size), by omega, by omega, by omega, by omega, HB.out.size⟩)
        have HPSZ := Lib.hid (show p.size ≤ 300000000000 ∧ q.size ≤ 300000000000 from by rw [HPE.out, HQE.out]; exact ⟨sz1, sz2⟩)
        clear g0 g1 gb f0 f1 fz0 hb5 HP1 HP2 HS HB HB2 HB3 HB4 HPA4 HQA HA1 HA2 HP sz1 sz2 sz3 sz4 hc0 hc1 hlen hlen2
        obtain ⟨hA1, hA2⟩ := LS.out.args
        refine (refSame_any p q (by have := HPSZ.out; omega) (by have := HPSZ.out; omega) w5.heap.size ap cp aq cq w5 (Nat.le_refl _) hA1 hA2).mono ?_
        rintro e w6 ⟨rfl, hb6⟩
        have HB6 := Lib.hid hb6
        have hz6 := hb6.size
        have LS6 := Lib.hid (LS.out.later hb6)
        clear hb6 hA1 hA2 LS
        by_cases hpq : T.cmp p q = 0
        · rw [decide_eq_true hpq]
          have HEQ := Lib.hid (T.cmp_zero.1 hpq)
          clear hpq
          go_wp2
          go_roundg (rmeas s l)
          case rel =>
            have h := LS6.out
            exact ⟨s, l, rfl, HR.out.same (by show t.sub (ofS s) = u.sub (ofS s); rw [← HPE.out, ← HQE.out]; exact HEQ.out), ⟨_, _, rfl, (h.hl _ HP'.out).mono h.nW⟩, ⟨_, _, rfl, h.hs.mono h.nW⟩, h.bel⟩
          case measure =>
            rw [← HGK.out]
            have := T.size_pos (t.sub (ofS s))
            simp only [rmeas, lsum]
            omega
        · rw [decide_eq_false hpq]
          have HNE := Lib.hid (show p ≠ q from fun h => hpq (T.cmp_zero.2 h))
          clear hpq
          obtain ⟨k0, k1, k2, k3, hk2, hk4⟩ := LS6.out.cells
          go_wp2_with fail
          refine (which_any p q HPW.out HQW.out ap cp aq cq w6).mono ?_
          rintro e w7 ⟨rfl, hb7⟩
          have LS7 := Lib.hid (LS6.out.later hb7)
          have hz7 := hb7.size
          clear hb7 HB6 k0 k1 k2 k3 hk2 hk4 LS6
          obtain ⟨k0, k1, k2, k3, hk2, hk4⟩ := LS7.out.cells
          have hwp := wf_low HPW.out
          have hwq := wf_low HQW.out
          by_cases hp0 : p.head < 0
          · by_cases hw1 : whT p q = 1
            · rw [hw1]
              have HO := Lib.hid (show q.head < 0 → p.head < q.head from fun hq => by
                by_cases h : p.head < q.head
                · exact h
                · rw [whT, if_pos hp0, if_pos hq, if_neg h] at hw1
                  exact absurd hw1 (by decide))
              have hwr : IntKind.i64.wrap (-1 - p.head) = -1 - p.head := IntWalk.i64_in _ (by omega)
              go_wp2_with fail
              obtain ⟨hA1, hA2⟩ := LS7.out.args
              refine (refVars_any q.size q (Nat.le_refl _) (by have := HPSZ.out; omega) _ aq cq _ (Nat.le_refl _) HQW.out hA2).mono ?_
              rintro e w8 ⟨av, cv, rfl, hIs, _, hb8⟩
              have LS8 := Lib.hid (LS7.out.later hb8)
              have HIS := Lib.hid hIs
              clear hA1 hA2 hb8 hIs LS7
              go_wp2_with fail
              refine (in_any (-1 - p.head) q.rv w8.heap.size av cv w8 (Nat.le_refl _) HIS.out).mono ?_
              rintro e w9 ⟨rfl, hb9⟩
              have LS9 := Lib.hid (LS8.out.later hb9)
              clear hb9 HIS LS8
              obtain ⟨k0, k1, k2, k3, hk2, hk4⟩ := LS9.out.cells
              by_cases hin : p.head ∈ q.heads
              · rw [decide_eq_true (show (-1 - p.head) ∈ q.rv from by rw [T.rv_eq]; exact (mem_vars _ _).2 ⟨_, hin, by omega, rfl⟩)]
                have HNO := Lib.hid (show ∀ θ : Int → T, x.sub θ ≠ y.sub θ from HR.out.occurs (a := p) (b := q) (.inl ⟨HPE.out, HQE.out⟩) (by omega) HNE.out hin)
                clear hin
                go_wp2_with fail
                go_ret2
                exact ⟨LS9.out.bel, .inr ⟨rfl, HNO.out⟩⟩
              · rw [decide_eq_false (show ¬ (-1 - p.head) ∈ q.rv from by
                  rw [T.rv_eq, mem_vars]
                  rintro ⟨h, h1, h2, h3⟩
                  exact hin (by rw [show p.head = h from by omega]; exact h1))]
                have HBD := Lib.hid (HR.out.bind hx hy (a := p) (b := q) (.inl ⟨HPE.out, HQE.out⟩) (by omega) hin HO.out)
                clear hin
                go_wp2_with fail
                have hU := isBs_one (v := -1 - p.head) (WalkArith.wf_i64 ⟨by omega, by omega⟩) HQW.out LS9.out.args.2
                have LS10 := Lib.hid (LS9.out.later ((Below.refl w9.heap.size w9).alloc (Nat.le_refl _) (.cells #[.int .i64 (-1 - p.head), .int .i64 q.head, .slice aq q.args.length cq] 43)))
                refine (refBoth_any s [(-1 - p.head, q)] (fun z => by have := HR.out.of_size hx hy h60 z; omega) _ a4 c4 _ 1 _ (Nat.le_refl _) (LS10.out.hs.mono LS10.out.nW) hU).mono ?_
                rintro e w11 ⟨a11, c11, rfl, hs11, hb11⟩
                have LS11 := Lib.hid (LS10.out.later hb11)
                have HS11 := Lib.hid hs11
                clear LS9 LS10 hU hs11 hb11
                go_wp2
                go_roundg (rmeas (thenL s [(-1 - p.head, q)] allV) l)
                case rel =>
                  obtain ⟨F', hRI, _⟩ := HBD.out
                  have h := LS11.out
                  exact ⟨_, l, rfl, ⟨F', hRI⟩, ⟨_, _, rfl, (h.hl _ HP'.out).mono h.nW⟩, ⟨_, _, rfl, HS11.out⟩, h.bel⟩
                case measure =>
                  obtain ⟨F', hRI, hbd, hun, r0, r1⟩ := HBD.out
                  have h1 := freeN_lt (s := s) (s' := thenL s [(-1 - p.head, q)] allV) (fun z hz => by rw [hbd, hz, Bool.true_or]) hun (by rw [hbd]; simp) allV (allV_mem r0 r1)
                  have h2 := (hRI.lsum_small hx hy h60).1
                  rw [← HGK.out]
                  simp only [rmeas]
                  omega
            · have hq0 : q.head < 0 := by
                by_cases h : q.head < 0
                · exact h
                · exact absurd (show whT p q = 1 from by rw [whT, if_pos hp0, if_neg h]) hw1
              have hle : ¬ p.head < q.head := fun h => hw1 (by rw [whT, if_pos hp0, if_pos hq0, if_pos h])
              rw [show whT p q = 2 from by rw [whT, if_pos hp0, if_pos hq0, if_neg hle]]
              have HO := Lib.hid (show p.head < 0 → q.head < p.head from fun _ => by
                have hg := HR.out.head_good
                have hgp : bad (T.subs 1 p) = false := by rw [HPE.out]; exact hg.1
                have hgq : bad (T.subs 1 q) = false := by rw [HQE.out]; exact hg.2
                have : p.head ≠ q.head := fun e => HNE.out (by rw [(var_range hgp hp0).2.2, (var_range hgq hq0).2.2, e])
                omega)
              have hwr : IntKind.i64.wrap (-1 - q.head) = -1 - q.head := IntWalk.i64_in _ (by omega)
              obtain ⟨z0, z1, z2, z3⟩ := LS7.out.froz
              have hn24 : w2.heap.size ≠ w4.heap.size := LS7.out.ne
              have hsw := LS7.out.swap (tmCells p.head ap p.args.length cp)
              have LS7s := Lib.hid hsw
              clear hsw LS7
              go_wp2_with fail
              obtain ⟨hA1, hA2⟩ := LS7s.out.args
              refine (refVars_any p.size p (Nat.le_refl _) (by have := HPSZ.out; omega) _ ap cp _ (Nat.le_refl _) HPW.out hA2).mono ?_
              rintro e w8 ⟨av, cv, rfl, hIs, _, hb8⟩
              have LS8 := Lib.hid (LS7s.out.later hb8)
              have HIS := Lib.hid hIs
              clear hA1 hA2 hb8 hIs LS7s
              go_wp2_with fail
              refine (in_any (-1 - q.head) p.rv w8.heap.size av cv w8 (Nat.le_refl _) HIS.out).mono ?_
              rintro e w9 ⟨rfl, hb9⟩
              have LS9 := Lib.hid (LS8.out.later hb9)
              clear hb9 HIS LS8
              obtain ⟨k0, k1, k2, k3, hk2, hk4⟩ := LS9.out.cells
              by_cases hin : q.head ∈ p.heads
              · rw [decide_eq_true (show (-1 - q.head) ∈ p.rv from by rw [T.rv_eq]; exact (mem_vars _ _).2 ⟨_, hin, by omega, rfl⟩)]
                have HNO := Lib.hid (show ∀ θ : Int → T, x.sub θ ≠ y.sub θ from HR.out.occurs (a := q) (b := p) (.inr ⟨HQE.out, HPE.out⟩) (by omega) HNE.out.symm hin)
                clear hin
                go_wp2_with fail
                go_ret2
                exact ⟨LS9.out.bel, .inr ⟨rfl, HNO.out⟩⟩
              · rw [decide_eq_false (show ¬ (-1 - q.head) ∈ p.rv from by
                  rw [T.rv_eq, mem_vars]
                  rintro ⟨h, h1, h2, h3⟩
                  exact hin (by rw [show q.head = h from by omega]; exact h1))]
                have HBD := Lib.hid (HR.out.bind hx hy (a := q) (b := p) (.inr ⟨HQE.out, HPE.out⟩) (by omega) hin HO.out)
                clear hin
                go_wp2_with fail
                have hU := isBs_one (v := -1 - q.head) (WalkArith.wf_i64 ⟨by omega, by omega⟩) HPW.out LS9.out.args.2
                have LS10 := Lib.hid (LS9.out.later ((Below.refl w9.heap.size w9).alloc (Nat.le_refl _) (.cells #[.int .i64 (-1 - q.head), .int .i64 p.head, .slice ap p.args.length cp] 43)))
                refine (refBoth_any s [(-1 - q.head, p)] (fun z => by have := HR.out.of_size hx hy h60 z; omega) _ a4 c4 _ 1 _ (Nat.le_refl _) (LS10.out.hs.mono LS10.out.nW) hU).mono ?_
                rintro e w11 ⟨a11, c11, rfl, hs11, hb11⟩
                have LS11 := Lib.hid (LS10.out.later hb11)
                have HS11 := Lib.hid hs11
                clear LS9 LS10 hU hs11 hb11
                go_wp2
                go_roundg (rmeas (thenL s [(-1 - q.head, p)] allV) l)
                case rel =>
                  obtain ⟨F', hRI, _⟩ := HBD.out
                  have h := LS11.out
                  exact ⟨_, l, rfl, ⟨F', hRI⟩, ⟨_, _, rfl, (h.hl _ HP'.out).mono h.nW⟩, ⟨_, _, rfl, HS11.out⟩, h.bel⟩
                case measure =>
                  obtain ⟨F', hRI, hbd, hun, r0, r1⟩ := HBD.out
                  have h1 := freeN_lt (s := s) (s' := thenL s [(-1 - q.head, p)] allV) (fun z hz => by rw [hbd, hz, Bool.true_or]) hun (by rw [hbd]; simp) allV (allV_mem r0 r1)
                  have h2 := (hRI.lsum_small hx hy h60).1
                  rw [← HGK.out]
                  simp only [rmeas]
                  omega
          · by_cases hq0 : q.head < 0
            · rw [show whT p q = 2 from by rw [whT, if_neg hp0, if_pos hq0]]
              have HO := Lib.hid (show p.head < 0 → q.head < p.head from fun h => absurd h hp0)
              have hwr : IntKind.i64.wrap (-1 - q.head) = -1 - q.head := IntWalk.i64_in _ (by omega)
              obtain ⟨z0, z1, z2, z3⟩ := LS7.out.froz
              have hn24 : w2.heap.size ≠ w4.heap.size := LS7.out.ne
              have hsw := LS7.out.swap (tmCells p.head ap p.args.length cp)
              have LS7s := Lib.hid hsw
              clear hsw LS7
              go_wp2_with fail
              obtain ⟨hA1, hA2⟩ := LS7s.out.args
              refine (refVars_any p.size p (Nat.le_refl _) (by have := HPSZ.out; omega) _ ap cp _ (Nat.le_refl _) HPW.out hA2).mono ?_
              rintro e w8 ⟨av, cv, rfl, hIs, _, hb8⟩
              have LS8 := Lib.hid (LS7s.out.later hb8)
              have HIS := Lib.hid hIs
              clear hA1 hA2 hb8 hIs LS7s
              go_wp2_with fail
              refine (in_any (-1 - q.head) p.rv w8.heap.size av cv w8 (Nat.le_refl _) HIS.out).mono ?_
              rintro e w9 ⟨rfl, hb9⟩
              have LS9 := Lib.hid (LS8.out.later hb9)
              clear hb9 HIS LS8
              obtain ⟨k0, k1, k2, k3, hk2, hk4⟩ := LS9.out.cells
              by_cases hin : q.head ∈ p.heads
              · rw [decide_eq_true (show (-1 - q.head) ∈ p.rv from by rw [T.rv_eq]; exact (mem_vars _ _).2 ⟨_, hin, by omega, rfl⟩)]
                have HNO := Lib.hid (show ∀ θ : Int → T, x.sub θ ≠ y.sub θ from HR.out.occurs (a := q) (b := p) (.inr ⟨HQE.out, HPE.out⟩) (by omega) HNE.out.symm hin)
                clear hin
                go_wp2_with fail
                go_ret2
                exact ⟨LS9.out.bel, .inr ⟨rfl, HNO.out⟩⟩
              · rw [decide_eq_false (show ¬ (-1 - q.head) ∈ p.rv from by
                  rw [T.rv_eq, mem_vars]
                  rintro ⟨h, h1, h2, h3⟩
                  exact hin (by rw [show q.head = h from by omega]; exact h1))]
                have HBD := Lib.hid (HR.out.bind hx hy (a := q) (b := p) (.inr ⟨HQE.out, HPE.out⟩) (by omega) hin HO.out)
                clear hin
                go_wp2_with fail
                have hU := isBs_one (v := -1 - q.head) (WalkArith.wf_i64 ⟨by omega, by omega⟩) HPW.out LS9.out.args.2
                have LS10 := Lib.hid (LS9.out.later ((Below.refl w9.heap.size w9).alloc (Nat.le_refl _) (.cells #[.int .i64 (-1 - q.head), .int .i64 p.head, .slice ap p.args.length cp] 43)))
                refine (refBoth_any s [(-1 - q.head, p)] (fun z => by have := HR.out.of_size hx hy h60 z; omega) _ a4 c4 _ 1 _ (Nat.le_refl _) (LS10.out.hs.mono LS10.out.nW) hU).mono ?_
                rintro e w11 ⟨a11, c11, rfl, hs11, hb11⟩
                have LS11 := Lib.hid (LS10.out.later hb11)
                have HS11 := Lib.hid hs11
                clear LS9 LS10 hU hs11 hb11
                go_wp2
                go_roundg (rmeas (thenL s [(-1 - q.head, p)] allV) l)
                case rel =>
                  obtain ⟨F', hRI, _⟩ := HBD.out
                  have h := LS11.out
                  exact ⟨_, l, rfl, ⟨F', hRI⟩, ⟨_, _, rfl, (h.hl _ HP'.out).mono h.nW⟩, ⟨_, _, rfl, HS11.out⟩, h.bel⟩
                case measure =>
                  obtain ⟨F', hRI, hbd, hun, r0, r1⟩ := HBD.out
                  have h1 := freeN_lt (s := s) (s' := thenL s [(-1 - q.head, p)] allV) (fun z hz => by rw [hbd, hz, Bool.true_or]) hun (by rw [hbd]; simp) allV (allV_mem r0 r1)
                  have h2 := (hRI.lsum_small hx hy h60).1
                  rw [← HGK.out]
                  simp only [rmeas]
                  omega
            · rw [show whT p q = 0 from by rw [whT, if_neg hp0, if_neg hq0]]
              by_cases hne : p.head = q.head ∧ p.args.length = q.args.length
              · obtain ⟨hph, hpl⟩ := hne
                have HAR := Lib.hid (HR.out.args hx hy (by show ¬ (t.sub (ofS s)).head < 0; rw [← HPE.out]; exact hp0) (by show ¬ (u.sub (ofS s)).head < 0; rw [← HQE.out]; exact hq0) (by show (t.sub (ofS s)).head = (u.sub (ofS s)).head; rw [← HPE.out, ← HQE.out]; exact hph) (by show (t.sub (ofS s)).args.length = (u.sub (ofS s)).args.length; rw [← HPE.out, ← HQE.out]; exact hpl))
                have hplen : p.args.length ≤ 300000000000 := by have := len_size p; have := HPSZ.out.1; omega
                obtain ⟨i0, hi, hz0, hz1, hz2⟩ := info_parts infoPrs
                go_wp2
                go_loopw [10, 11] (fun v i wq => ArI p q w7 v i wq) (fun _ i _ => p.args.length - (intOf i).toNat)
                case atStart => exact ⟨0, [], Nat.zero_le _, rfl, World.ownsRow_nil _ _ _ _, trivial, Below.refl _ _⟩
                case round =>
                  obtain ⟨k, xs, hk, rfl, hown, hpv, hBq⟩ := hrel
                  have HO := Lib.hid hown
                  have HV := Lib.hid hpv
                  have HBq := Lib.hid hBq
                  have hzq := hBq.size
                  have LSq := Lib.hid (LS7.out.later hBq)
                  clear hown hpv hBq k0 k1 k2 k3
                  obtain ⟨k0, k1, k2, k3, hk2', hk4'⟩ := LSq.out.cells
                  by_cases hlt : k < p.args.length
                  · obtain ⟨b1, o1, s1, aa1, cc1, rfl, hb1, hs1, hw1, d10, d11, hA1⟩ := LS7.out.args.1.elem (i := k) hlt
                    obtain ⟨b2, o2, s2, aa2, cc2, rfl, hb2', hs2, hw2, d20, d21, hA2⟩ := LS7.out.args.2.elem (i := k) (by omega)
                    have e10 := (HBq.out.cell (p := ⟨b1, _, none⟩) hb1).trans d10
                    have e11 := (HBq.out.cell (p := ⟨b1, _, none⟩) hb1).trans d11
                    have e20 := (HBq.out.cell (p := ⟨b2, _, none⟩) hb2').trans d20
                    have e21 := (HBq.out.cell (p := ⟨b2, _, none⟩) hb2').trans d21
                    have hb1q : b1 < wr.heap.size := by omega
                    have hb2q : b2 < wr.heap.size := by omega
                    have HS1 := Lib.hid hs1
                    have HS2 := Lib.hid hs2
                    have HW1 := Lib.hid hw1
                    have HW2 := Lib.hid hw2
                    have HA1' := Lib.hid hA1
                    have HA2' := Lib.hid hA2
                    have hk0 : (0 : Int) ≤ (k : Int) := Int.natCast_nonneg _
                    have hk1 : (k : Int) < (p.args.length : Int) := by omega
                    have hk1' : (k : Int) < (q.args.length : Int) := by omega
                    have hkm : k + 1 ≤ maxLen := by unfold maxLen; omega
                    clear d10 d11 d20 d21 hs1 hs2 hw1 hw2 hA1 hA2
                    go_wp2
                    go_region_law (first
                      | (refine step_append_lies _ (by rfl) _ _ _ (by rfl) w7.heap.size 123 i0 _ 4 64 Try.underlying121 hi hz0 hz1 hz2 rfl (by omega) _ k xs (by rfl) ((ownsRow_later HO.out ((Below.refl _ _).drew)).alloc _)
                          ⟨wr.heap.size, 0, none⟩ 1 1 [.int .i64 s1.head, .slice aa1 s1.args.length cc1, .int .i64 s2.head, .slice aa2 s2.args.length cc2] (by rfl) (by rfl) (World.news_of_block (cs := #[.int .i64 s1.head, .slice aa1 s1.args.length cc1, .int .i64 s2.head, .slice aa2 s2.args.length cc2]) (t := 123) (fr := (0, 0)) (heap_alloc_new wr.drew _)) (by simp [Value.oneCell'])
                          (by omega) hkm (by omega) (by simp; omega) (wr.heap.size + 1) (by simp) ?_; intro g5 cap5 w5' hown5 hgrow5 hat5 hlt5))
                    all_goals
                      go_wp2
                      go_roundw
                      case rel => exact ar_step hlt HS1.out HS2.out HW1.out HW2.out HA1'.out HA2'.out HV.out HBq.out HO.out hown5 hgrow5
                      case measure => simp [intOf]; omega
                  · obtain rfl : k = p.args.length := by omega
                    have hzl : (p.args.zip q.args).length = p.args.length := by simp; omega
                    have hv := HV.out
                    rw [List.take_of_length_le (by omega)] at hv
                    have HV2 := Lib.hid hv
                    have hl481 : l.length ≤ 481 := by
                      obtain ⟨F', h⟩ := HAR.out
                      have := (h.lsum_small hx hy h60).2
                      simp at this
                      omega
                    have hbase : w7.heap.size ≤ wr.heap.size := HBq.out.size
                    clear hv HV
                    go_wp2_with (at_builtin; refine stopHere ?_)
                    refine Lib.hid ?_
                    refine wpList_append_ps rfl _ _ rfl w7.heap.size _ _ _ rfl HO.out l a0' _ _ rfl (LSq.out.hl _ HP'.out) (by omega) hbase ?_
                    intro v' w2' ys hown2 hpv2 hgr2
                    have HO2 := Lib.hid hown2
                    have HG2 := Lib.hid hgr2
                    have HV3 := Lib.hid hpv2
                    clear hown2 hgr2 hpv2
                    go_wp2
                    go_roundg (rmeas s (p.args.zip q.args ++ l))
                    case rel =>
                      obtain ⟨F', hRI⟩ := HAR.out
                      have hB2 : Below w7.heap.size w7 w2' := HBq.out.grown HG2.out hbase (fun b hb => (HO.out.lt b hb).1)
                      have hlow : ∀ b, b < w7.heap.size → w2'.heap[b]? = wr.heap[b]? := fun b hb => (hB2.block b hb).trans (HBq.out.block b hb).symm
                      have hnW := LS7.out.nW
                      have hpv := (HV2.out.keep hlow (fun _ h => h)).append (HV3.out.keep (ok' := fun b => b < w7.heap.size) (fun b hb => hlow b (Nat.lt_of_lt_of_le hb hnW)) (fun b hb => Nat.lt_of_lt_of_le hb hnW))
                      have hown := HO2.out
                      rw [show p.args.length + l.length = (p.args.zip q.args ++ l).length from by rw [List.length_append, hzl]] at hown
                      obtain ⟨a', c', hv', hIP⟩ := isPs_of_owns (n := w2'.heap.size) hown hpv (fun b hb => Nat.lt_of_lt_of_le hb hB2.size) (fun g hg => (hown.lt g hg).2)
                      have hL := LS7.out.later hB2
                      exact ⟨s, _, rfl, ⟨F', by rw [HPE.out, HQE.out]; exact hRI⟩, ⟨_, _, hv', hIP⟩, ⟨_, _, rfl, hL.hs.mono hL.nW⟩, hL.bel⟩
                    case measure =>
                      have hself : p.sub (ofS s) = p := by
                        rw [HPE.out]
                        exact sub_self _ _ _ (Nat.le_refl _) HR.out.head_good.1 (fun g hg hn => ofS_unbound (HR.out.tri.put_free (HR.out.good (t, u) (by simp)).1 hg hn))
                      have h1 : p.args.map (T.sub (ofS s)) = p.args := by
                        have h := congrArg T.args hself
                        rwa [T.sub_pos (t := p) (show ¬ p.head < 0 by omega)] at h
                      have h2 : T.sizes p.args < (t.sub (ofS s)).size := by
                        rw [← HPE.out]
                        cases p with
                        | node hh ts => simp only [T.args_node, T.size]; omega
                      rw [← HGK.out]
                      simp only [rmeas, lsum]
                      rw [lsum_zip _ _ _ _ hpl, h1]
                      omega
              · have HNO := Lib.hid (show ∀ θ : Int → T, x.sub θ ≠ y.sub θ from HR.out.clash (by show ¬ (t.sub (ofS s)).head < 0; rw [← HPE.out]; exact hp0) (by show ¬ (u.sub (ofS s)).head < 0; rw [← HQE.out]; exact hq0) (by
                  show (t.sub (ofS s)).head ≠ (u.sub (ofS s)).head ∨ (t.sub (ofS s)).args.length ≠ (u.sub (ofS s)).args.length
                  rw [← HPE.out, ← HQE.out]
                  by_cases h : p.head = q.head
                  · exact .inr (fun h2 => hne ⟨h, h2⟩)
                  · exact .inl h))
                by_cases hh : p.head = q.head
                · have hal : p.args.length ≠ q.args.length := fun h => hne ⟨hh, h⟩
                  go_wp2_with fail
                  go_ret2
                  exact ⟨LS7.out.bel, .inr ⟨rfl, HNO.out⟩⟩
                · go_wp2_with fail
                  go_ret2
                  exact ⟨LS7.out.bel, .inr ⟨rfl, HNO.out⟩⟩)

end Go.Proofs.Ytcbjnfdhghhgeaa
