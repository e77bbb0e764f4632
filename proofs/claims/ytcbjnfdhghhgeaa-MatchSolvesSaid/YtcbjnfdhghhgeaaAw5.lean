/- Contract of layer 5's awake. -/
import Derived.Test.YtcbjnfdhghhgeaaMat
import Derived.Test.YtcbjnfdhghhgeaaQ1j
import Derived.Deep.RegionLaw
import Derived.Deep.RegionHeld3
import Derived.Deep.CutRange
namespace Go.Proofs.Ytcbjnfdhghhgeaa
set_option linter.unusedVariables false
set_option linter.unusedSimpArgs false
open Go.RowKit

def P5 : T := .node 4 [.node (-1) [], .node (-2) []]
def Q5 : T := .node 4 [.node (-2) [], .node 1 []]
def R5 : T := .node 4 [.node (-1) [], .node (-1) []]
def U5 : T := .node 4 [.node 1 [], .node 2 []]
def S5 : Sb := [(0, .node (-2) []), (1, .node 1 [])]

theorem sb_ext {s s' : Sb} (h : (s.map Prod.fst).Pairwise (· < ·)) (h' : (s'.map Prod.fst).Pairwise (· < ·)) (hm : ∀ p, p ∈ s ↔ p ∈ s') : s = s' := by
  have hf : s.map Prod.fst = s'.map Prod.fst := rising_unique h h' (fun z => by
    simp only [List.mem_map]
    constructor
    · rintro ⟨p, hp, e⟩; exact ⟨p, (hm p).1 hp, e⟩
    · rintro ⟨p, hp, e⟩; exact ⟨p, (hm p).2 hp, e⟩)
  have hl : s.length = s'.length := by have := congrArg List.length hf; simpa using this
  apply List.ext_getElem hl
  intro i h1 h2
  have e1 : s[i].1 = s'[i].1 := by
    have := congrArg (fun l => l[i]?) hf
    simpa [List.getElem?_map, List.getElem?_eq_getElem h1, List.getElem?_eq_getElem h2] using this
  have m1 : s[i] ∈ s := List.getElem_mem h1
  have m2 : s'[i] ∈ s' := List.getElem_mem h2
  have e2 := ofS_mem h' ((hm _).1 m1)
  have e3 := ofS_mem h' m2
  refine Prod.ext e1 ?_
  rw [← e2, ← e3, ← e1]
theorem sm_rising {M : Sb} (h : (M.map Prod.fst).Pairwise (· < ·)) (hh : ∀ q ∈ M, q.2.head ≠ -1 - q.1) : sm M = M := by
  have hk : KN M := h.imp (fun h => by omega)
  refine sb_ext (sm_rise hk) h fun p => ?_
  rw [sm_mem]
  constructor
  · rintro ⟨h1, h2, _⟩
    have := mem_of_bndN hk h1
    rw [← h2] at this
    exact this
  · intro hp
    exact ⟨bnd_mem.2 (List.mem_map.2 ⟨p, hp, rfl⟩), (ofS_memN hk hp).symm, hh p hp⟩
theorem sm5 : sm S5 = S5 := sm_rising (by simp [S5]) (by intro q hq; simp [S5] at hq; rcases hq with rfl | rfl <;> decide)
theorem ext5 : P5.ext Q5 [] = some S5 := by rfl
theorem same12 : sameB (.node 1 []) (.node 2 []) = false := by
  cases h : sameB (.node 1 []) (.node 2 [])
  · rfl
  · have := (sameB_iff _ _).1 h
    simp at this
theorem ext5' : R5.ext U5 [] = none := by
  simp [R5, U5, T.ext, T.exts, T.head, T.args, bnd, ofS, same12]
theorem leaf2_mem {b : Nat} {h1 h2 : Int} {X : World} (w1 : (Lit.int .i64 h1).wf = true) (w2 : (Lit.int .i64 h2).wf = true) (hx : Cs b [.int .i64 h1, .slice none 0 0, .int .i64 h2, .slice none 0 0] X) : IsArgs X.heap.size X [.node h1 [], .node h2 []] (some ⟨b, 0, none⟩) 2 := by
  obtain ⟨hx, cx⟩ := hx
  exact ⟨by simp, by simp [maxLen], .inr ⟨b, 0, rfl, hx, ⟨w1, cx 0 _ rfl, _, _, cx 1 _ rfl, by simp, by simp [maxLen], .inl rfl⟩, ⟨w2, cx 2 _ rfl, _, _, cx 3 _ rfl, by simp, by simp [maxLen], .inl rfl⟩, trivial⟩⟩
theorem call5 (b c : Nat) (W : World) (hx : IsArgs W.heap.size W P5.args (some ⟨b, 0, none⟩) 2) (hy : IsArgs W.heap.size W Q5.args (some ⟨c, 0, none⟩) 2) : Calls Try.prog 41 #[tm 4 (some ⟨b, 0, none⟩) 2 2, tm 4 (some ⟨c, 0, none⟩) 2 2] W fun e w' => ∃ a c, e = .returned (.tuple #[.slice a 2 c, .bool true, .int .i64 0]) ∧ IsBs w'.heap.size w' S5 a c ∧ Below W.heap.size W w' :=
  (match_any P5 Q5 (by simp [P5, T.size, T.sizes]) (by simp [Q5, T.size, T.sizes]) W.heap.size _ 2 _ 2 W (Nat.le_refl _) (by decide) (by decide) hx hy).mono fun e w' ⟨s, bb, k, a, c, he, hS, hb, hR⟩ => by
    rcases hR with ⟨h, _⟩ | ⟨_, ⟨h, _⟩ | ⟨M, h, rfl, rfl, rfl⟩⟩
    · rcases h with h | h <;> exact absurd rfl h
    · rw [ext5] at h; cases h
    · rw [ext5] at h
      cases h
      rw [sm5] at he hS
      exact ⟨a, c, he, hS, hb⟩
theorem call5' (b c : Nat) (W : World) (hx : IsArgs W.heap.size W R5.args (some ⟨b, 0, none⟩) 2) (hy : IsArgs W.heap.size W U5.args (some ⟨c, 0, none⟩) 2) : Calls Try.prog 41 #[tm 4 (some ⟨b, 0, none⟩) 2 2, tm 4 (some ⟨c, 0, none⟩) 2 2] W fun e w' => ∃ a c, e = .returned (.tuple #[.slice a 0 c, .bool false, .int .i64 0]) ∧ Below W.heap.size W w' :=
  (match_any R5 U5 (by simp [R5, T.size, T.sizes]) (by simp [U5, T.size, T.sizes]) W.heap.size _ 2 _ 2 W (Nat.le_refl _) (by decide) (by decide) hx hy).mono fun e w' ⟨s, bb, k, a, c, he, hS, hb, hR⟩ => by
    rcases hR with ⟨h, _⟩ | ⟨_, ⟨h, rfl, rfl, rfl⟩ | ⟨M, h, _⟩⟩
    · rcases h with h | h <;> exact absurd rfl h
    · exact ⟨a, c, he, hb⟩
    · rw [ext5'] at h; cases h
theorem two_laid (w : World) (c1 c2 : Array Value) (ty : TypeId) {u : World} (h : Below (((w.alloc (.cells c1 ty)).alloc (.cells c2 ty)).drew).heap.size (((w.alloc (.cells c1 ty)).alloc (.cells c2 ty)).drew) u) : Later (Cs w.heap.size c1.toList) u ∧ Later (Cs (w.heap.size + 1) c2.toList) u ∧ Below w.heap.size w u := by
  have h1 : Below (w.alloc (.cells c1 ty)).heap.size (w.alloc (.cells c1 ty)) u := (((Below.refl _ _).alloc (Nat.le_refl _) (.cells c2 ty)).drew).trans (h.mono (by show _ ≤ ((w.alloc (.cells c1 ty)).alloc (.cells c2 ty)).heap.size; simp))
  have h2 : Below ((w.alloc (.cells c1 ty)).alloc (.cells c2 ty)).heap.size ((w.alloc (.cells c1 ty)).alloc (.cells c2 ty)) u := ((Below.refl _ _).drew).trans h
  have l2 := (later_cs (w.alloc (.cells c1 ty)) c2 ty).mv h2
  rw [heap_alloc_size] at l2
  exact ⟨(later_cs w c1 ty).mv h1, l2, ((Below.refl _ w).alloc (Nat.le_refl _) _).trans (h1.mono (by simp))⟩
abbrev C51 : Array Value := #[.int .i64 (-1), .slice none 0 0, .int .i64 (-2), .slice none 0 0]
abbrev C52 : Array Value := #[.int .i64 (-2), .slice none 0 0, .int .i64 1, .slice none 0 0]
def Cut5 (w6 : World) (v4 v5 v6 : Value) (wx : World) : Prop := ∃ a c, v4 = .slice a 2 c ∧ v5 = .bool true ∧ v6 = .int .i64 0 ∧ IsBs wx.heap.size wx S5 a c ∧ Below w6.heap.size w6 wx
def Cut5' (w6 : World) (v7 v8 v9 : Value) (wx : World) : Prop := v8 = .bool false ∧ v9 = .int .i64 0 ∧ Below w6.heap.size w6 wx
theorem s5_mem {b : Nat} {X : World} (hx : Cs b [.int .i64 0, .int .i64 (-2), .slice none 0 0, .int .i64 1, .int .i64 1, .slice none 0 0] X) : IsBs X.heap.size X S5 (some ⟨b, 0, none⟩) 2 := by
  obtain ⟨hx, cx⟩ := hx
  refine ⟨by simp [S5], by simp [maxLen], .inr ⟨b, 0, rfl, hx, fun j x hj => ?_⟩⟩
  match j, hj with
  | 0, hj =>
    simp [S5] at hj
    subst hj
    exact ⟨by decide, cx 0 _ rfl, ⟨by decide, cx 1 _ rfl, _, _, cx 2 _ rfl, by simp, by simp [maxLen], .inl rfl⟩⟩
  | 1, hj =>
    simp [S5] at hj
    subst hj
    exact ⟨by decide, cx 3 _ rfl, ⟨by decide, cx 4 _ rfl, _, _, cx 5 _ rfl, by simp, by simp [maxLen], .inl rfl⟩⟩
  | j + 2, hj => simp [S5] at hj

set_option maxRecDepth 100000 in
set_option maxHeartbeats 12000000 in
theorem awake5_any (w : World) : Calls Try.prog 35 #[] w fun e w' => e = .returned (.bool true) ∧ Below w.heap.size w w' := by
  go_enter Try.func35, Try.ntmps35
  go_wp2_with fail
  refine (refVar_any 0 _ (by omega) (by omega)).mono ?_
  rintro e w1 ⟨rfl, hb1⟩
  have D1 := Lib.hid (Later.below hb1)
  clear hb1
  go_wp2_with fail
  have D2 := Lib.hid (D1.out.push (Below.refl _ _) (-1) none 0 0)
  generalize w1.alloc (.cells #[.int .i64 (-1), .slice none 0 0] 25) = w2 at D2 ⊢
  generalize w1.heap.size = bx at D2 ⊢
  refine (refVar_any 1 _ (by omega) (by omega)).mono ?_
  rintro e w3 ⟨rfl, hb⟩
  have D3 := Lib.hid (D2.out.mv hb)
  clear hb D1 D2
  go_wp2_with fail
  have D4 := Lib.hid (D3.out.push (Below.refl _ _) (-2) none 0 0)
  generalize w3.alloc (.cells #[.int .i64 (-2), .slice none 0 0] 25) = w4 at D4 ⊢
  generalize w3.heap.size = by_ at D4 ⊢
  refine (fun_any 1 _ _ _ w4).mono ?_
  rintro e w5 ⟨rfl, hb⟩
  have D5 := Lib.hid (D4.out.mv hb)
  clear hb D3 D4
  go_wp2_with fail
  have D6 := Lib.hid (D5.out.push (Below.refl _ _) 1 none 0 0)
  generalize w5.alloc (.cells #[.int .i64 1, .slice none 0 0] 25) = w6 at D6 ⊢
  generalize w5.heap.size = ba at D6 ⊢
  clear D5
  have KP := Lib.hid (show ∀ W, Below w6.heap.size w6 W → (W.cell? ⟨ba, 0, none⟩ = some (.int .i64 1) ∧ W.cell? ⟨ba, 1, none⟩ = some (.slice none 0 0)) ∧ (W.cell? ⟨by_, 0, none⟩ = some (.int .i64 (-2)) ∧ W.cell? ⟨by_, 1, none⟩ = some (.slice none 0 0)) ∧ (W.cell? ⟨bx, 0, none⟩ = some (.int .i64 (-1)) ∧ W.cell? ⟨bx, 1, none⟩ = some (.slice none 0 0)) ∧ Below w.heap.size w W from fun W hW => D6.out W hW)
  have KQ := Lib.hid (show ∀ W, Below w6.heap.size w6 W → (W.cell? ⟨ba, 0, none⟩ = some (.int .i64 1) ∧ W.cell? ⟨ba, 1, none⟩ = some (.slice none 0 0)) ∧ (W.cell? ⟨by_, 0, none⟩ = some (.int .i64 (-2)) ∧ W.cell? ⟨by_, 1, none⟩ = some (.slice none 0 0)) ∧ (W.cell? ⟨bx, 0, none⟩ = some (.int .i64 (-1)) ∧ W.cell? ⟨bx, 1, none⟩ = some (.slice none 0 0)) ∧ Below w6.heap.size w6 W from fun W hW => ⟨(KP.out W hW).1, (KP.out W hW).2.1, (KP.out W hW).2.2.1, hW⟩)
  obtain ⟨⟨a0, a1⟩, ⟨y0, y1⟩, ⟨x0, x1⟩, _⟩ := KP.out w6 (Below.refl _ _)
  have la : ba < w6.heap.size := World.block_lt_of_cell? w6 ⟨ba, 0, none⟩ a0
  have ly : by_ < w6.heap.size := World.block_lt_of_cell? w6 ⟨by_, 0, none⟩ y0
  have lx : bx < w6.heap.size := World.block_lt_of_cell? w6 ⟨bx, 0, none⟩ x0
  go_cut [4, 5, 6] from 10 (fun v4 v5 v6 wx => Cut5 w6 v4 v5 v6 wx)
  case first =>
    refine wp_region_noPanic ?_
    go_region_held3 (fun w' => (w'.cell? ⟨ba, 0, none⟩ = some (.int .i64 1) ∧ w'.cell? ⟨ba, 1, none⟩ = some (.slice none 0 0)) ∧ (w'.cell? ⟨by_, 0, none⟩ = some (.int .i64 (-2)) ∧ w'.cell? ⟨by_, 1, none⟩ = some (.slice none 0 0)) ∧ (w'.cell? ⟨bx, 0, none⟩ = some (.int .i64 (-1)) ∧ w'.cell? ⟨bx, 1, none⟩ = some (.slice none 0 0)) ∧ Below w6.heap.size w6 w')
      (first
        | exact KQ.out _ hB5
        | exact KQ.out _ hB2
        | exact KQ.out _ hB1
        | exact KQ.out _ (hB1.alloc hB1.size _)
        | exact KQ.out _ (Below.refl _ _)
        | exact KQ.out _ (Below.refl _ _).drew
        | exact KQ.out _ ((Below.refl _ _).alloc (Nat.le_refl _) _).drew
        | exact KQ.out _ (((Below.refl _ _).alloc (Nat.le_refl _) _).alloc (by simp) _).drew)
      (first
        | (go_at_call 41; first
            | (have m1 : IsArgs u2.heap.size u2 P5.args (some ⟨w6.heap.size, 0, none⟩) 2 := leaf2_mem (by decide) (by decide) (L1 u2 hb12); have m2 : IsArgs u2.heap.size u2 Q5.args (some ⟨u1.heap.size, 0, none⟩) 2 := leaf2_mem (by decide) (by decide) (L2 u2 (Below.refl _ _)); with_reducible refine (call5 (w6.heap.size) (u1.heap.size) u2 m1 m2).mono ?_; rintro e u3 ⟨a5, c5, rfl, hI5, h5⟩; have hB5 := hB2.trans (h5.mono hB2.size))
            | (have m1 : IsArgs u2.heap.size u2 P5.args (some ⟨w6.heap.size, 0, none⟩) 2 := leaf2_mem (by decide) (by decide) (L1 u2 h2); have m2 : IsArgs u2.heap.size u2 Q5.args (some ⟨w6.heap.size + 1, 0, none⟩) 2 := leaf2_mem (by decide) (by decide) (L2 u2 h2); with_reducible refine (call5 (w6.heap.size) (w6.heap.size + 1) u2 m1 m2).mono ?_; rintro e u3 ⟨a5, c5, rfl, hI5, h5⟩; have hB5 := hB2.trans (h5.mono hB2.size))
            | (have m1 : IsArgs u2.heap.size u2 P5.args (some ⟨w6.heap.size + 1, 0, none⟩) 2 := leaf2_mem (by decide) (by decide) (L1 u2 h2); have m2 : IsArgs u2.heap.size u2 Q5.args (some ⟨w6.heap.size, 0, none⟩) 2 := leaf2_mem (by decide) (by decide) (L2 u2 h2); with_reducible refine (call5 (w6.heap.size + 1) (w6.heap.size) u2 m1 m2).mono ?_; rintro e u3 ⟨a5, c5, rfl, hI5, h5⟩; have hB5 := hB2.trans (h5.mono hB2.size)))
        | (go_at_call 52; first
            | (with_reducible refine (fun_any 4 (some ⟨u1.heap.size, 0, none⟩) 2 2 _).mono ?_; rintro e u2 ⟨rfl, h2⟩; have L2 := (later_cs u1 #[.int .i64 (-2), .slice none 0 0, .int .i64 1, .slice none 0 0] 25).mv h2; have hb12 : Below u1.heap.size u1 u2 := ((Below.refl _ u1).alloc (Nat.le_refl _) _).trans (h2.mono (by simp)); have hB2 := hB1.trans (hb12.mono hB1.size))
            | (with_reducible refine (fun_any 4 _ 2 2 u1).mono ?_; rintro e u2 ⟨rfl, h2⟩; have hB2 := hB1.trans (h2.mono hB1.size))
            | (with_reducible refine (fun_any 4 (some ⟨w6.heap.size, 0, none⟩) 2 2 (((w6.alloc (.cells C51 25)).alloc (.cells C52 25)).drew)).mono ?_; rintro e u1 ⟨rfl, h1⟩; obtain ⟨L1, L2, hB1⟩ := two_laid w6 _ _ _ h1)
            | (with_reducible refine (fun_any 4 (some ⟨w6.heap.size + 1, 0, none⟩) 2 2 (((w6.alloc (.cells C52 25)).alloc (.cells C51 25)).drew)).mono ?_; rintro e u1 ⟨rfl, h1⟩; obtain ⟨L2, L1, hB1⟩ := two_laid w6 _ _ _ h1)
            | (refine (fun_any 4 (some ⟨w6.heap.size, 0, none⟩) 2 2 _).mono ?_; rintro e u1 ⟨rfl, h1⟩; have L1 := (later_cs w6.drew #[.int .i64 (-1), .slice none 0 0, .int .i64 (-2), .slice none 0 0] 25).mv h1; have hB1 : Below w6.heap.size w6 u1 := ((Below.refl _ w6).drew.alloc (Nat.le_refl _) _).trans (h1.mono (by simp)); obtain ⟨⟨p0, p1⟩, ⟨p2, p3⟩, ⟨p4, p5⟩, _⟩ := KP.out u1 hB1; have la1 : ba < u1.heap.size := World.block_lt_of_cell? u1 ⟨ba, 0, none⟩ p0; have ly1 : by_ < u1.heap.size := World.block_lt_of_cell? u1 ⟨by_, 0, none⟩ p2)))
    all_goals
      refine NoPanic.normal ?_
      go_wp2_with fail
      go_meet
      exact ⟨a5, c5, rfl, rfl, rfl, hI5, hB5⟩
  case rest =>
    obtain ⟨a5, c5, rfl, rfl, rfl, hI5, hB5⟩ := hcut
    have D7 := Lib.hid ((D6.out.mv hB5).and (later_bs hI5))
    clear hI5 KP a0 a1 y0 y1 x0 x1 la ly lx D6 hB5
    generalize wc = w7 at D7 ⊢
    have KP := Lib.hid (show ∀ W, Below w7.heap.size w7 W → (W.cell? ⟨ba, 0, none⟩ = some (.int .i64 1) ∧ W.cell? ⟨ba, 1, none⟩ = some (.slice none 0 0)) ∧ (W.cell? ⟨by_, 0, none⟩ = some (.int .i64 (-2)) ∧ W.cell? ⟨by_, 1, none⟩ = some (.slice none 0 0)) ∧ (W.cell? ⟨bx, 0, none⟩ = some (.int .i64 (-1)) ∧ W.cell? ⟨bx, 1, none⟩ = some (.slice none 0 0)) ∧ Below w.heap.size w W from fun W hW => (D7.out W hW).2)
    obtain ⟨⟨a0, a1⟩, ⟨y0, y1⟩, ⟨x0, x1⟩, _⟩ := KP.out w7 (Below.refl _ _)
    have la : ba < w7.heap.size := World.block_lt_of_cell? w7 ⟨ba, 0, none⟩ a0
    have lx : bx < w7.heap.size := World.block_lt_of_cell? w7 ⟨bx, 0, none⟩ x0
    go_wp2_with fail
    go_cut [7, 8, 9] from 26 (fun v7 v8 v9 wx => Cut5' w7 v7 v8 v9 wx)
    case first =>
      go_region_law (go_simp; first
          | (go_at_call 41; first
              | (refine (call5' w7.heap.size u2.heap.size u3 (leaf2_mem (by decide) (by decide) (L1 u3 hb13)) (leaf2_mem (by decide) (by decide) (L2 u3 (Below.refl _ _)))).mono ?_; rintro e u4 ⟨a6, c6, rfl, h5⟩; have hB5 := hB3.trans (h5.mono hB3.size)))
          | (go_at_call 52; first
              | (refine (fun_any 4 (some ⟨u2.heap.size, 0, none⟩) 2 2 _).mono ?_; rintro e u3 ⟨rfl, h3⟩; have L2 := (later_cs u2 #[.int .i64 1, .slice none 0 0, .int .i64 2, .slice none 0 0] 25).mv h3; have hb23 : Below u2.heap.size u2 u3 := ((Below.refl _ u2).alloc (Nat.le_refl _) _).trans (h3.mono (by simp)); have hb13 : Below u1.heap.size u1 u3 := h2.trans (hb23.mono h2.size); have hB3 := hB1.trans (hb13.mono hB1.size))
              | (refine (fun_any 2 none 0 0 u1).mono ?_; rintro e u2 ⟨rfl, h2⟩; have hB2 := hB1.trans (h2.mono hB1.size); obtain ⟨⟨q0, q1⟩, _, _, _⟩ := KP.out u2 hB2; have la2 : ba < u2.heap.size := World.block_lt_of_cell? u2 ⟨ba, 0, none⟩ q0)
              | (refine (fun_any 4 (some ⟨w7.heap.size, 0, none⟩) 2 2 _).mono ?_; rintro e u1 ⟨rfl, h1⟩; have L1 := (later_cs w7.drew #[.int .i64 (-1), .slice none 0 0, .int .i64 (-1), .slice none 0 0] 25).mv h1; have hB1 : Below w7.heap.size w7 u1 := ((Below.refl _ w7).drew.alloc (Nat.le_refl _) _).trans (h1.mono (by simp)); obtain ⟨⟨p0, p1⟩, ⟨p2, p3⟩, ⟨p4, p5⟩, _⟩ := KP.out u1 hB1; have la1 : ba < u1.heap.size := World.block_lt_of_cell? u1 ⟨ba, 0, none⟩ p0)))
      all_goals
        go_wp2_with fail
        go_meet
        exact ⟨rfl, rfl, hB5⟩
    case rest =>
      obtain ⟨rfl, rfl, hB6⟩ := hcut
      have D8 := Lib.hid (D7.out.mv hB6)
      clear KP a0 a1 y0 y1 x0 x1 la lx D7 hB6
      generalize wc = w8 at D8 ⊢
      obtain ⟨_, ⟨a0, a1⟩, ⟨y0, y1⟩, _⟩ := D8.out.now
      go_wp2_with fail
      have D9 := Lib.hid (D8.out.pushC (Below.refl _ _) #[.int .i64 0, .int .i64 (-2), .slice none 0 0, .int .i64 1, .int .i64 1, .slice none 0 0] 43)
      generalize w8.alloc (.cells #[.int .i64 0, .int .i64 (-2), .slice none 0 0, .int .i64 1, .int .i64 1, .slice none 0 0] 43) = w9 at D9 ⊢
      generalize w8.heap.size = b8 at D9 ⊢
      clear D8 a0 a1 y0 y1
      refine (sameS_any S5 (fun x hx => by simp [S5] at hx; rcases hx with rfl | rfl <;> simp [T.size, T.sizes]) w9.heap.size a5 c5 (some ⟨b8, 0, none⟩) 2 w9 (Nat.le_refl _) D9.out.now.2.1 (s5_mem D9.out.now.1)).mono ?_
      rintro e w10 ⟨rfl, hb⟩
      have hfin := (D9.out.mv hb).now.2.2.2.2.2
      clear hb D9
      go_wp2_with fail
      go_ret
      exact ⟨rfl, hfin⟩

end Go.Proofs.Ytcbjnfdhghhgeaa
