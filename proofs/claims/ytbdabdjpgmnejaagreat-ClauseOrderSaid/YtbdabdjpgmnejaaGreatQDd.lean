/- QDd: joined of Kb8, R8d, R8r, Qt0. -/
import Derived.Test.YtbdabdjpgmnejaaGreatQBi
import Derived.Test.YtbdabdjpgmnejaaGreatQDc
import Derived.BigQuiet
import Derived.OwnWalk
import Derived.Test.YtbdabdjpgmnejaaGreatQBb
import Derived.Lib.QuietBelow
import Derived.Deep.CutRange
/- Plain facts for the document's answer of layer 8: rows without one another's terms. -/
namespace Go.Proofs.YtbdabdjpgmnejaaGreat
set_option linter.unusedVariables false
set_option linter.unusedSimpArgs false
open Go.RowKit

theorem diffM_perm : ∀ (a : List T) {b b' : List T}, b.Perm b' → diffM a b = diffM a b'
  | [], _, _, _ => rfl
  | t :: a, b, b', h => by
    simp only [diffM]
    by_cases q : t ∈ b
    · rw [if_pos q, if_pos (h.mem_iff.1 q), diffM_perm a (h.erase t)]
    · rw [if_neg q, if_neg (fun e => q (h.mem_iff.2 e)), diffM_perm a h]
/-- What is not used of a row. -/
def rem : List T → List Bool → List T
  | t :: b, u :: us => if u then rem b us else t :: rem b us
  | _, _ => []
theorem mem_rem {x : T} : ∀ {b : List T} {us : List Bool}, x ∈ rem b us ↔ ∃ j : Nat, us[j]? = some false ∧ b[j]? = some x
  | [], us => by simp [rem]
  | t :: b, [] => by simp [rem]
  | t :: b, u :: us => by
    have ih := mem_rem (x := x) (b := b) (us := us)
    cases u with
    | true =>
      simp only [rem, if_pos]
      rw [ih]
      constructor
      · rintro ⟨j, h1, h2⟩; exact ⟨j + 1, by simpa using h1, by simpa using h2⟩
      · rintro ⟨j, h1, h2⟩
        cases j with
        | zero => simp at h1
        | succ j => exact ⟨j, by simpa using h1, by simpa using h2⟩
    | false =>
      simp only [rem, Bool.false_eq_true, if_false, List.mem_cons]
      rw [ih]
      constructor
      · rintro (rfl | ⟨j, h1, h2⟩)
        · exact ⟨0, rfl, rfl⟩
        · exact ⟨j + 1, by simpa using h1, by simpa using h2⟩
      · rintro ⟨j, h1, h2⟩
        cases j with
        | zero => left; simpa using h2.symm
        | succ j => exact .inr ⟨j, by simpa using h1, by simpa using h2⟩
theorem rem_set {x : T} : ∀ {b : List T} {us : List Bool} {j : Nat}, us[j]? = some false → b[j]? = some x → (rem b us).Perm (x :: rem b (us.set j true))
  | [], us, j, _, h => by simp at h
  | t :: b, [], j, h, _ => by simp at h
  | t :: b, u :: us, 0, h1, h2 => by
    simp at h1 h2
    subst h1 h2
    simp [rem]
  | t :: b, u :: us, j + 1, h1, h2 => by
    have ih := rem_set (b := b) (us := us) (j := j) (by simpa using h1) (by simpa using h2)
    cases u with
    | true => simpa [rem] using ih
    | false =>
      simp only [rem, List.set_cons_succ, Bool.false_eq_true, if_false]
      exact (ih.cons t).trans (.swap x t _)
theorem rem_all : ∀ (b : List T), rem b (List.replicate b.length false) = b
  | [] => rfl
  | t :: b => by simp [rem, List.replicate_succ, rem_all b]
theorem diffM_keep {x : T} {r b : List T} {us : List Bool} (h : ∀ j : Nat, us[j]? = some false → b[j]? ≠ some x) : diffM (x :: r) (rem b us) = x :: diffM r (rem b us) := by
  simp only [diffM]
  rw [if_neg]
  intro e
  obtain ⟨j, h1, h2⟩ := mem_rem.1 e
  exact h j h1 h2
theorem diffM_use {x : T} {r b : List T} {us : List Bool} {j : Nat} (h1 : us[j]? = some false) (h2 : b[j]? = some x) : diffM (x :: r) (rem b us) = diffM r (rem b (us.set j true)) := by
  simp only [diffM]
  have hm : x ∈ rem b us := mem_rem.2 ⟨j, h1, h2⟩
  rw [if_pos hm]
  refine diffM_perm r ?_
  have := (rem_set h1 h2).erase x
  simpa using this
theorem diffM_sub : ∀ (a b : List T), ∀ t ∈ diffM a b, t ∈ a
  | [], b, t, h => by simp [diffM] at h
  | x :: a, b, t, h => by
    simp only [diffM] at h
    split at h
    · exact List.mem_cons_of_mem _ (diffM_sub a _ t h)
    · rcases List.mem_cons.1 h with rfl | h
      · exact List.mem_cons_self ..
      · exact List.mem_cons_of_mem _ (diffM_sub a _ t h)
theorem diffM_length : ∀ (a b : List T), (diffM a b).length ≤ a.length
  | [], b => by simp [diffM]
  | x :: a, b => by
    simp only [diffM]
    split
    · have := diffM_length a (b.erase x); simp; omega
    · have := diffM_length a b; simp; omega

end Go.Proofs.YtbdabdjpgmnejaaGreat

/- Contracts of the document's answer for rows (layer 8): without. -/
namespace Go.Proofs.YtbdabdjpgmnejaaGreat
set_option linter.unusedVariables false
set_option linter.unusedSimpArgs false
open Go.RowKit

theorem infoBool : (Tryz.prog.info? 4).map (fun i => (i.zero, i.size, i.bytes)) = some (some (.bool false), 1, 1) := by kernel_rfl
/-- The row of what is used. -/
def UsB (ub : Nat) (us : List Bool) (W : World) : Prop := W.heap[ub]? = some (.cells (us.map Value.bool).toArray 4 (0, 0))
theorem UsB.later {ub : Nat} {us : List Bool} {W W' : World} (h : UsB ub us W) (hb : Below W.heap.size W W') : UsB ub us W' := by
  have hlt : ub < W.heap.size := (Array.getElem?_eq_some_iff.1 h).1
  exact (hb.block ub hlt).trans h
theorem UsB.cell {ub : Nat} {us : List Bool} {W : World} (h : UsB ub us W) {j : Nat} {u : Bool} (hj : us[j]? = some u) : W.cell? ⟨ub, j, none⟩ = some (.bool u) := by
  unfold UsB at h
  simp [World.cell?, h, hj]
theorem UsB.frozen {ub : Nat} {us : List Bool} {W : World} (h : UsB ub us W) (j : Nat) : W.frozen? ⟨ub, j, none⟩ = false := by
  unfold UsB at h
  simp [World.frozen?, h]
theorem UsB.set {ub : Nat} {us : List Bool} {W : World} (h : UsB ub us W) (j : Nat) (u : Bool) : UsB ub (us.set j u) (W.setCell ⟨ub, j, none⟩ (.bool u)) := by
  unfold UsB at *
  rw [heap_setCell_same h]
  simp [List.map_set]
theorem UsB.kept {ub : Nat} {us : List Bool} {W W' : World} (h : UsB ub us W) (hk : W'.heap[ub]? = W.heap[ub]?) : UsB ub us W' := hk.trans h

structure WoI (A B : List T) (b1 ub k : Nat) (ov : Value) (us : List Bool) (O : List T) (w wr : World) : Prop where
  b : Below b1 w wr
  n : b1 ≤ ub
  u : UsB ub us wr
  ul : us.length = B.length
  o : OA b1 ov O wr
  ne : ov.ownBlock ≠ some ub
  e : O ++ diffM (A.drop k) (rem B us) = diffM A B
  ol : O.length ≤ k
theorem WoI.later {A B : List T} {b1 ub k : Nat} {ov : Value} {us : List Bool} {O : List T} {w wr w' : World} (h : WoI A B b1 ub k ov us O w wr) (hn : b1 ≤ wr.heap.size) (hb : Below wr.heap.size wr w') : WoI A B b1 ub k ov us O w w' :=
  ⟨h.b.trans (hb.mono hn), h.n, h.u.later hb, h.ul, h.o.later hn hb, h.ne, h.e, h.ol⟩
/-- It is used by another one. -/
theorem WoI.use {A B : List T} {b1 ub k j : Nat} {ov : Value} {us : List Bool} {O : List T} {w wr : World} {x : T} (h : WoI A B b1 ub k ov us O w wr) (hx : A[k]? = some x) (h1 : us[j]? = some false) (h2 : B[j]? = some x) : WoI A B b1 ub (k + 1) ov (us.set j true) O w (wr.setCell ⟨ub, j, none⟩ (.bool true)) := by
  obtain ⟨hkl, hke⟩ := List.getElem?_eq_some_iff.1 hx
  have he := h.e
  rw [List.drop_eq_getElem_cons hkl, hke, diffM_use h1 h2] at he
  have hb : Below b1 wr (wr.setCell ⟨ub, j, none⟩ (.bool true)) := (Below.refl _ _).setCell h.n _
  have hh : ∀ g, ov.ownBlock = some g → (wr.setCell ⟨ub, j, none⟩ (.bool true)).heap[g]? = wr.heap[g]? := fun g hg => Below.heap_setCell _ _ _ _ (fun e => h.ne (by rw [hg, e]))
  exact ⟨h.b.trans hb, h.n, h.u.set j true, by simpa using h.ul, h.o.kept hb hh, h.ne, he, by have := h.ol; omega⟩
/-- It is left. -/
theorem WoI.keep {A B : List T} {b1 ub k : Nat} {ov v' : Value} {us : List Bool} {O : List T} {w wr w' : World} {x : T} (h : WoI A B b1 ub k ov us O w wr) (hx : A[k]? = some x) (hno : ∀ j : Nat, us[j]? = some false → B[j]? ≠ some x) (hO : OA b1 v' (O ++ [x]) w') (hg : wr.grownBy w' ov.ownBlock) (hv : v'.ownBlock = ov.ownBlock ∨ v'.ownBlock = some wr.heap.size) (hn : b1 ≤ wr.heap.size) : WoI A B b1 ub (k + 1) v' us (O ++ [x]) w w' := by
  obtain ⟨hkl, hke⟩ := List.getElem?_eq_some_iff.1 hx
  have he := h.e
  rw [List.drop_eq_getElem_cons hkl, hke, diffM_keep hno] at he
  have hul : ub < wr.heap.size := (Array.getElem?_eq_some_iff.1 h.u).1
  have hb : Below b1 wr w' := (Below.refl b1 wr).grown hg hn (fun k e => (h.o.block e).1)
  refine ⟨h.b.trans hb, h.n, h.u.kept (hg.block ub hul (fun e => h.ne e.symm)), h.ul, hO, fun e => ?_, by rw [← he]; simp, by have := h.ol; simp; omega⟩
  rcases hv with hv | hv
  · exact h.ne (hv ▸ e)
  · rw [hv] at e; cases e; omega
def WoS (A B : List T) (b1 ub : Nat) (w : World) (ov i : Value) (wr : World) : Prop := ∃ (k : Nat) (us : List Bool) (O : List T), k ≤ A.length ∧ i = .int .i64 k ∧ WoI A B b1 ub k ov us O w wr
def WoJ (B : List T) (us : List Bool) (x : T) (w1 : World) (av jv : Value) (wr : World) : Prop := ∃ j : Nat, j ≤ B.length ∧ jv = .int .i64 j ∧ ((av = .int .i64 (-1) ∧ ∀ (l : Nat), l < j → us[l]? = some false → B[l]? ≠ some x) ∨ (∃ l : Nat, av = .int .i64 l ∧ l < B.length ∧ us[l]? = some false ∧ B[l]? = some x)) ∧ Below w1.heap.size w1 wr
def WoPost (D : List T) (w : World) (e : Ending) (w' : World) : Prop := ∃ p c, e = .returned (.slice p D.length c) ∧ IsArgs w'.heap.size w' D p c ∧ Below w.heap.size w w'

set_option maxRecDepth 100000 in
set_option maxHeartbeats 4000000 in
theorem rWithout_any (A B : List T) (hla : A.length ≤ 1000000) (hlb : B.length ≤ 1000000) (hsa : ∀ t ∈ A, t.size ≤ 1000000000000) (hsb : ∀ t ∈ B, t.size ≤ 1000000000000) (n₀ : Nat) (pa : Option Addr) (ca : Nat) (pb : Option Addr) (cb : Nat) (w : World) (hn : n₀ ≤ w.heap.size) (hA : IsArgs n₀ w A pa ca) (hB : IsArgs n₀ w B pb cb) :
    Calls Tryz.prog 150 #[.slice pa A.length ca, .slice pb B.length cb] w (WoPost (diffM A B) w) := by
  have HA := Lib.hid (hA.mono hn)
  have HB := Lib.hid (hB.mono hn)
  have hla1 := hA.1
  have hla2 := hA.2.1
  have hlb1 := hB.1
  have hlb2 := hB.2.1
  unfold maxLen at hla2 hlb2
  have HSA := Lib.hid hsa
  have HSB := Lib.hid hsb
  clear hA hB hsa hsb
  have hmk : ∀ W : World, (Instr.makeSlice 118 (.int .i64 (B.length : Int)) (.int .i64 (B.length : Int))).run Tryz.prog W = .ok (.slice (some ⟨W.heap.size, 0, none⟩) B.length B.length) (W.alloc (.cells (madeCells #[.bool false] B.length) 4)) := fun W => by
    obtain ⟨i0, hi, hz0, hz1, hz2⟩ := info_parts infoBool
    exact run_make_row 118 4 i0 _ Tryz.underlying118 hi hz0 hz1 rfl .i64 .i64 B.length (by rw [hz2]; omega) (by omega) W
  go_enter Tryz.func150, Tryz.ntmps150
  go_wp2
  have hI0 : WoI A B w.heap.size w.heap.size 0 (.slice none 0 0) (List.replicate B.length false) [] w (w.alloc (.cells (madeCells #[.bool false] B.length) 4)) := by
    refine ⟨(Below.refl _ _).alloc (Nat.le_refl _) _, Nat.le_refl _, ?_, by simp, OA.nil _ _, by simp [Value.ownBlock], by simp [rem_all], Nat.le_refl _⟩
    unfold UsB
    rw [heap_alloc_new]
    congr 2
    refine Array.ext (by simp [madeCells]) fun i h1 h2 => ?_
    simp [madeCells, Nat.mod_one]
  have HI0 := Lib.hid hI0
  have hz1 : w.heap.size ≤ (w.alloc (.cells (madeCells #[.bool false] B.length) 4)).heap.size := by simp
  generalize w.alloc (.cells (madeCells #[.bool false] B.length) 4) = w1 at HI0 hz1 ⊢
  clear hI0 hmk
  go_loopw [6, 7] (fun ov i wr => WoS A B w.heap.size w.heap.size w ov i wr) (fun _ i _ => A.length - (intOf i).toNat)
  case atStart => exact ⟨0, _, _, Nat.zero_le _, rfl, HI0.out⟩
  case round =>
    obtain ⟨k, us, O, hk, rfl, hI⟩ := hrel
    have HI := Lib.hid hI
    have hnz := hI.b.size
    clear hI HI0
    by_cases hlt : k < A.length
    · obtain ⟨b1, o1, x, a1, c1, rfl, hb1, hx, hxw, e0, e1, hxA⟩ := (HA.out.below HI.out.b).elem (i := k) hlt
      have hk0 : (0 : Int) ≤ (k : Int) := Int.natCast_nonneg _
      have hk1 : (k : Int) < (A.length : Int) := by omega
      have HX := Lib.hid (And.intro hx (And.intro hxw hxA))
      have hxs := HSA.out x (List.mem_of_getElem? hx)
      clear hx hxw hxA
      have hb1w : b1 < wr.heap.size := by omega
      obtain ⟨wo, rfl⟩ : ∃ wo, wo = wr := ⟨_, rfl⟩
      go_wp2
      go_loopw [8, 9] (fun av jv W' => WoJ B us x wo av jv W') (fun av jv _ => B.length - (intOf jv).toNat)
      case atStart => exact ⟨0, Nat.zero_le _, rfl, .inl ⟨rfl, fun l hl => by omega⟩, Below.refl _ _⟩
      case round =>
        obtain ⟨j, hj, rfl, hat, hB2⟩ := hrel
        have HB2 := Lib.hid hB2
        have hB2z := hB2.size
        have HI2 := Lib.hid (HI.out.later hnz hB2)
        have e0' := (hB2.cell (p := ⟨b1, _, none⟩) hb1w).trans e0
        have e1' := (hB2.cell (p := ⟨b1, _, none⟩) hb1w).trans e1
        clear hB2
        have hj0 : (0 : Int) ≤ (j : Int) := Int.natCast_nonneg _
        rcases hat with ⟨rfl, hno⟩ | ⟨l, rfl, hll, hl1, hl2⟩
        · have HNO := Lib.hid hno
          clear hno
          by_cases hjb : j < B.length
          · have hj1 : (j : Int) < (B.length : Int) := by omega
            have hul := HI2.out.ul
            obtain ⟨u, hu⟩ : ∃ u, us[j]? = some u := ⟨_, List.getElem?_eq_getElem (by omega)⟩
            have HU := Lib.hid hu
            have hcu := HI2.out.u.cell hu
            obtain ⟨b2, o2, y, a2, c2, rfl, hb2, hy, hyw, f0, f1, hyA⟩ := (HB.out.below HI2.out.b).elem (i := j) hjb
            have HY := Lib.hid hy
            have hys := HSB.out y (List.mem_of_getElem? hy)
            have hb2w : b2 < wr.heap.size := by omega
            clear hu hy hul
            cases u with
            | true =>
              go_wp2
              go_quiet (fail)
              go_wp2
              go_roundw
              case rel => exact ⟨j + 1, by omega, by go_num, .inl ⟨rfl, fun l hl h1 h2 => by
                by_cases e : l = j
                · subst e; rw [HU.out] at h1; cases h1
                · exact HNO.out l (by omega) h1 h2⟩, HB2.out.trans ((bl_drew' _ _).mono (by omega))⟩
              case measure => simp [intOf]; omega
            | false =>
              obtain ⟨hxw, hxA⟩ := HX.out.2
              have HYW := Lib.hid (And.intro hyw hyA)
              have KP := Lib.hid (show ∀ W, Below wr.heap.size wr W → W.cell? ⟨w.heap.size, j, none⟩ = some (.bool false) ∧ (W.cell? ⟨b1, o1 + k * 2, none⟩ = some (.int .i64 x.head) ∧ W.cell? ⟨b1, o1 + k * 2 + 1, none⟩ = some (.slice a1 x.args.length c1)) ∧ (W.cell? ⟨b2, o2 + j * 2, none⟩ = some (.int .i64 y.head) ∧ W.cell? ⟨b2, o2 + j * 2 + 1, none⟩ = some (.slice a2 y.args.length c2)) ∧ Below wr.heap.size wr W from fun W hW =>
                ⟨(HI2.out.u.later hW).cell HU.out, ⟨(hW.cell (p := ⟨b1, _, none⟩) (by show b1 < _; omega)).trans e0', (hW.cell (p := ⟨b1, _, none⟩) (by show b1 < _; omega)).trans e1'⟩, ⟨(hW.cell (p := ⟨b2, _, none⟩) (by show b2 < _; omega)).trans f0, (hW.cell (p := ⟨b2, _, none⟩) (by show b2 < _; omega)).trans f1⟩, hW⟩)
              have CS := Lib.hid (fun (W : World) (hW : Below wr.heap.size wr W) => refSame_any x y (by omega) (by omega) w.heap.size a1 c1 a2 c2 W (by have := hW.size; omega) (hxA.below ((HB2.out.mono hnz).trans (hW.mono (by omega)))) (hyA.below (hW.mono (by omega))))
              obtain ⟨p0, ⟨p1, p2⟩, ⟨p3, p4⟩, _⟩ := KP.out _ (Below.refl _ _)
              clear hxw hxA hyw hyA e0' e1' f0 f1 hcu
              by_cases hxy : x = y
              · have HXY := Lib.hid hxy
                rw [show decide (T.cmp x y = 0) = true from decide_eq_true (T.cmp_zero.2 hxy)] at CS
                clear hxy
                go_wp2_with fail
                refine wp_region_noPanic ?_
                go_region_held3 (fun w' => w'.cell? ⟨w.heap.size, j, none⟩ = some (.bool false) ∧ (w'.cell? ⟨b1, o1 + k * 2, none⟩ = some (.int .i64 x.head) ∧ w'.cell? ⟨b1, o1 + k * 2 + 1, none⟩ = some (.slice a1 x.args.length c1)) ∧ (w'.cell? ⟨b2, o2 + j * 2, none⟩ = some (.int .i64 y.head) ∧ w'.cell? ⟨b2, o2 + j * 2 + 1, none⟩ = some (.slice a2 y.args.length c2)) ∧ Below wr.heap.size wr w')
                  (first
                    | exact KP.out _ (Below.refl _ _)
                    | exact KP.out _ (Below.refl _ _).drew
                    | exact KP.out _ hB)
                  (first
                    | (go_at_call 76; with_reducible refine (CS.out _ (‹_ ∧ _ ∧ _ ∧ Below wr.heap.size wr _›.2.2.2)).mono ?_; rintro e u1 ⟨rfl, hu⟩; have hB := bl_call (‹_ ∧ _ ∧ _ ∧ Below wr.heap.size wr _›.2.2.2) hu; have hfin := hB))
                all_goals
                  refine NoPanic.normal ?_
                  have HFIN := Lib.hid (HB2.out.trans (hfin.mono hB2z))
                  go_wp2
                  go_roundw
                  case rel => exact ⟨j + 1, by omega, by go_num, .inr ⟨j, rfl, hjb, HU.out, by rw [HY.out, HXY.out]⟩, HFIN.out⟩
                  case measure => simp [intOf]; omega
              · have HXY := Lib.hid hxy
                rw [show decide (T.cmp x y = 0) = false from decide_eq_false (fun e => hxy (T.cmp_zero.1 e))] at CS
                clear hxy
                go_wp2_with fail
                refine wp_region_noPanic ?_
                go_region_held3 (fun w' => w'.cell? ⟨w.heap.size, j, none⟩ = some (.bool false) ∧ (w'.cell? ⟨b1, o1 + k * 2, none⟩ = some (.int .i64 x.head) ∧ w'.cell? ⟨b1, o1 + k * 2 + 1, none⟩ = some (.slice a1 x.args.length c1)) ∧ (w'.cell? ⟨b2, o2 + j * 2, none⟩ = some (.int .i64 y.head) ∧ w'.cell? ⟨b2, o2 + j * 2 + 1, none⟩ = some (.slice a2 y.args.length c2)) ∧ Below wr.heap.size wr w')
                  (first
                    | exact KP.out _ (Below.refl _ _)
                    | exact KP.out _ (Below.refl _ _).drew
                    | exact KP.out _ hB)
                  (first
                    | (go_at_call 76; with_reducible refine (CS.out _ (‹_ ∧ _ ∧ _ ∧ Below wr.heap.size wr _›.2.2.2)).mono ?_; rintro e u1 ⟨rfl, hu⟩; have hB := bl_call (‹_ ∧ _ ∧ _ ∧ Below wr.heap.size wr _›.2.2.2) hu; have hfin := hB))
                all_goals
                  refine NoPanic.normal ?_
                  have HFIN := Lib.hid (HB2.out.trans (hfin.mono hB2z))
                  go_wp2
                  go_roundw
                  case rel => exact ⟨j + 1, by omega, by go_num, .inl ⟨rfl, fun l hl h1 h2 => by
                    by_cases e : l = j
                    · subst e; rw [HY.out] at h2; exact HXY.out (Option.some.inj h2).symm
                    · exact HNO.out l (by omega) h1 h2⟩, HFIN.out⟩
                  case measure => simp [intOf]; omega
          · obtain rfl : j = B.length := by omega
            have HNO2 := Lib.hid (show ∀ l : Nat, us[l]? = some false → B[l]? ≠ some x from fun l h1 h2 => HNO.out l (List.getElem?_eq_some_iff.1 h2).1 h1 h2)
            have hal : Below wr.heap.size wr (wr.alloc (.cells #[.int .i64 x.head, .slice a1 x.args.length c1] 34)) := (Below.refl _ _).alloc (Nat.le_refl _) _
            have HI3 := Lib.hid (HI2.out.later (by omega) hal)
            have HSRC := Lib.hid (show Src w.heap.size (wr.alloc (.cells #[.int .i64 x.head, .slice a1 x.args.length c1] 34)) [x] (some ⟨wr.heap.size, 0, none⟩) 1 from
              Src.of_one HX.out.2.1 ((HX.out.2.2.below (HB2.out.mono hnz)).below (hal.mono (by omega))) wr.heap.size (by simp [go_sem]) (by simp [go_sem]))
            have hz3 : w.heap.size ≤ (wr.alloc (.cells #[.int .i64 x.head, .slice a1 x.args.length c1] 34)).heap.size := by simp; omega
            clear hal HNO
            go_wp2_with (at_builtin; refine stopHere ?_)
            generalize wr.alloc (.cells #[.int .i64 x.head, .slice a1 x.args.length c1] 34) = w3 at HI3 HSRC hz3 ⊢
            refine Lib.hid ?_
            refine wpList_append_ts rfl _ _ rfl w.heap.size _ O rfl HI3.out.o hz3 [x] _ _ rfl HSRC.out (by have := HI3.out.ol; simp; omega) ?_
            intro v5 w5 hO5 hg5 hv5
            have HI5 := Lib.hid (HI3.out.keep HX.out.1 HNO2.out hO5 hg5 hv5 hz3)
            clear hO5 hg5 hv5
            go_wp2
            go_roundw
            case rel => exact ⟨k + 1, us, O ++ [x], by omega, by go_num, HI5.out⟩
            case measure => simp [intOf]; omega
        · have hlk0 : (0 : Int) ≤ (l : Int) := Int.natCast_nonneg _
          have hlk1 : (l : Int) < (B.length : Int) := by omega
          have hfr := HI2.out.u.frozen l
          have hcl := HI2.out.u.cell hl1
          have HI5 := Lib.hid (HI2.out.use HX.out.1 hl1 hl2)
          have hlneg : ¬ ((l : Int) < 0) := by omega
          clear hl1 hl2 e0' e1'
          by_cases hjb : j < B.length
          · have hj1 : (j : Int) < (B.length : Int) := by omega
            go_wp2
            go_roundw
            case rel => exact ⟨k + 1, us.set l true, O, by omega, by go_num, HI5.out⟩
            case measure => simp [intOf]; omega
          · have hj1 : ¬ (j : Int) < (B.length : Int) := by omega
            go_wp2
            go_roundw
            case rel => exact ⟨k + 1, us.set l true, O, by omega, by go_num, HI5.out⟩
            case measure => simp [intOf]; omega
    · obtain rfl : k = A.length := by omega
      have he := HI.out.e
      rw [List.drop_of_length_le (Nat.le_refl _)] at he
      simp only [diffM, List.append_nil] at he
      subst he
      obtain ⟨p, c, hv, hR⟩ := HI.out.o.args hnz
      subst hv
      have HR := Lib.hid hR
      clear hR
      go_wp2
      go_ret
      exact ⟨p, c, rfl, HR.out, HI.out.b⟩

end Go.Proofs.YtbdabdjpgmnejaaGreat

/- Contracts of the document's answer for rows (layer 8): over, Rows. -/
namespace Go.Proofs.YtbdabdjpgmnejaaGreat
set_option linter.unusedVariables false
set_option linter.unusedSimpArgs false
open Go.RowKit

def ovAll (g : Sg) (x y : List T) : Bool := y.all fun u => x.any fun t => gtK g t u
def OvI (g : Sg) (x y : List T) (w1 : World) (i : Value) (wr : World) : Prop := ∃ k : Nat, k ≤ y.length ∧ i = .int .i64 k ∧ ovAll g x y = ovAll g x (y.drop k) ∧ Below w1.heap.size w1 wr
def OvJ (g : Sg) (x : List T) (u : T) (w1 : World) (av j : Value) (wr : World) : Prop := ∃ k : Nat, k ≤ x.length ∧ j = .int .i64 k ∧ av = .bool ((x.take k).any fun t => gtK g t u) ∧ Below w1.heap.size w1 wr
theorem any_snoc {x : List T} {k : Nat} {t : T} (h : x[k]? = some t) (f : T → Bool) : (x.take (k + 1)).any f = ((x.take k).any f || f t) := by
  rw [List.take_add_one, h]; simp
theorem ov_step {g : Sg} {x y : List T} {k : Nat} {u : T} (h : y[k]? = some u) : ovAll g x (y.drop k) = ((x.any fun t => gtK g t u) && ovAll g x (y.drop (k + 1))) := by
  obtain ⟨hkl, hke⟩ := List.getElem?_eq_some_iff.1 h
  rw [List.drop_eq_getElem_cons hkl, hke]; rfl

set_option maxRecDepth 100000 in
set_option maxHeartbeats 4000000 in
theorem rOver_any (g : Sg) (hr : rightG g = true) (x y : List T) (hx : ∀ t ∈ x, OkT g t) (hy : ∀ t ∈ y, OkT g t) (n₀ : Nat) (ga : Option Addr) (gc : Nat) (pa : Option Addr) (ca : Nat) (pb : Option Addr) (cb : Nat) (w : World) (hn : n₀ ≤ w.heap.size) (hG : IsSg n₀ w g ga gc) (hA : IsArgs n₀ w x pa ca) (hB : IsArgs n₀ w y pb cb) :
    Calls Tryz.prog 151 #[.slice ga g.length gc, .slice pa x.length ca, .slice pb y.length cb] w fun e w' => e = .returned (.bool (overT g x y)) ∧ Below w.heap.size w w' := by
  have HG := Lib.hid (hG.mono hn)
  have HA := Lib.hid (hA.mono hn)
  have HB := Lib.hid (hB.mono hn)
  have hla1 := hA.1
  have hla2 := hA.2.1
  have hlb1 := hB.1
  have hlb2 := hB.2.1
  unfold maxLen at hla2 hlb2
  have HXO := Lib.hid hx
  have HYO := Lib.hid hy
  have HOV := Lib.hid (show overT g x y = (decide (0 < x.length) && ovAll g x y) from by
    unfold overT ovAll
    congr 1
    cases x <;> simp)
  clear hA hB hG hx hy
  go_enter Tryz.func151, Tryz.ntmps151
  go_wp2
  go_loopw [7] (fun i wr => OvI g x y w i wr) (fun i _ => y.length - (intOf i).toNat)
  case atStart => exact ⟨0, Nat.zero_le _, rfl, by simp, Below.refl _ _⟩
  case round =>
    obtain ⟨k, hk, rfl, hE, hb⟩ := hrel
    have HE := Lib.hid hE
    have HBo := Lib.hid hb
    have hnz := hb.size
    clear hE hb
    by_cases hlt : k < y.length
    · obtain ⟨b1, o1, u, a1, c1, rfl, hb1, hu, huw, e0, e1, huA⟩ := (HB.out.below HBo.out).elem (i := k) hlt
      have hk0 : (0 : Int) ≤ (k : Int) := Int.natCast_nonneg _
      have hk1 : (k : Int) < (y.length : Int) := by omega
      have HU := Lib.hid (And.intro hu (And.intro huw huA))
      have HST := Lib.hid (ov_step (g := g) (x := x) hu)
      have HUO := Lib.hid (HYO.out u (List.mem_of_getElem? hu))
      clear hu huw huA
      have hb1w : b1 < wr.heap.size := by omega
      obtain ⟨wo, rfl⟩ : ∃ wo, wo = wr := ⟨_, rfl⟩
      go_wp2
      go_loopw [8, 9] (fun av jv W' => OvJ g x u wo av jv W') (fun av jv _ => x.length - (intOf jv).toNat)
      case atStart => exact ⟨0, Nat.zero_le _, rfl, rfl, Below.refl _ _⟩
      case round =>
        obtain ⟨j, hj, rfl, rfl, hB2⟩ := hrel
        have HB2 := Lib.hid hB2
        have hB2z := hB2.size
        have e0' := (hB2.cell (p := ⟨b1, _, none⟩) hb1w).trans e0
        have e1' := (hB2.cell (p := ⟨b1, _, none⟩) hb1w).trans e1
        have HBw := Lib.hid (HBo.out.trans (hB2.mono hnz))
        clear hB2
        have hj0 : (0 : Int) ≤ (j : Int) := Int.natCast_nonneg _
        by_cases hjb : j < x.length
        · have hj1 : (j : Int) < (x.length : Int) := by omega
          obtain ⟨b2, o2, t, a2, c2, rfl, hb2, ht, htw, f0, f1, htA⟩ := (HA.out.below HBw.out).elem (i := j) hjb
          have HAN := Lib.hid (any_snoc ht (fun t => gtK g t u))
          have HTO := Lib.hid (HXO.out t (List.mem_of_getElem? ht))
          have hb2w : b2 < wr.heap.size := by omega
          clear ht
          obtain ⟨q, hq⟩ : ∃ q, ((x.take j).any fun t => gtK g t u) = q := ⟨_, rfl⟩
          rw [hq] at HAN ⊢
          clear hq
          cases q with
          | true =>
            go_wp2
            go_quiet (fail)
            go_wp2
            go_roundw
            case rel => exact ⟨j + 1, by omega, by go_num, by rw [HAN.out]; rfl, HB2.out.trans ((bl_drew' _ _).mono (by omega))⟩
            case measure => simp [intOf]; omega
          | false =>
            have KP := Lib.hid (show ∀ W, Below wr.heap.size wr W → (W.cell? ⟨b1, o1 + k * 2, none⟩ = some (.int .i64 u.head) ∧ W.cell? ⟨b1, o1 + k * 2 + 1, none⟩ = some (.slice a1 u.args.length c1)) ∧ (W.cell? ⟨b2, o2 + j * 2, none⟩ = some (.int .i64 t.head) ∧ W.cell? ⟨b2, o2 + j * 2 + 1, none⟩ = some (.slice a2 t.args.length c2)) ∧ Below wr.heap.size wr W from fun W hW =>
              ⟨⟨(hW.cell (p := ⟨b1, _, none⟩) (by show b1 < _; omega)).trans e0', (hW.cell (p := ⟨b1, _, none⟩) (by show b1 < _; omega)).trans e1'⟩, ⟨(hW.cell (p := ⟨b2, _, none⟩) (by show b2 < _; omega)).trans f0, (hW.cell (p := ⟨b2, _, none⟩) (by show b2 < _; omega)).trans f1⟩, hW⟩)
            have CG := Lib.hid (fun (W : World) (hW : Below wr.heap.size wr W) => greater_any g hr t.size t u (Nat.le_refl _) HTO.out HUO.out w.heap.size ga gc a2 c2 a1 c1 W (by have := hW.size; omega) ((HG.out.below HBw.out).below (hW.mono (by omega))) htw HU.out.2.1 (htA.below (hW.mono (by omega))) ((HU.out.2.2.below (HB2.out.mono hnz)).below (hW.mono (by omega))))
            obtain ⟨⟨p1, p2⟩, ⟨p3, p4⟩, _⟩ := KP.out _ (Below.refl _ _)
            clear htw htA e0' e1' f0 f1
            generalize gtK g t u = q at *
            go_wp2_with fail
            refine wp_region_noPanic ?_
            go_region_held3 (fun w' => (w'.cell? ⟨b1, o1 + k * 2, none⟩ = some (.int .i64 u.head) ∧ w'.cell? ⟨b1, o1 + k * 2 + 1, none⟩ = some (.slice a1 u.args.length c1)) ∧ (w'.cell? ⟨b2, o2 + j * 2, none⟩ = some (.int .i64 t.head) ∧ w'.cell? ⟨b2, o2 + j * 2 + 1, none⟩ = some (.slice a2 t.args.length c2)) ∧ Below wr.heap.size wr w')
              (first
                | exact KP.out _ (Below.refl _ _)
                | exact KP.out _ (Below.refl _ _).drew
                | exact KP.out _ hB)
              (first
                | (go_at_call 161; with_reducible refine (CG.out _ (‹_ ∧ _ ∧ Below wr.heap.size wr _›.2.2)).mono ?_; rintro e u1 ⟨rfl, hu⟩; have hB := bl_call (‹_ ∧ _ ∧ Below wr.heap.size wr _›.2.2) hu; have hfin := hB))
            all_goals
              refine NoPanic.normal ?_
              have HFIN := Lib.hid (HB2.out.trans (hfin.mono hB2z))
              go_wp2
              go_roundw
              case rel => exact ⟨j + 1, by omega, by go_num, by rw [HAN.out]; rfl, HFIN.out⟩
              case measure => simp [intOf]; omega
        · obtain rfl : j = x.length := by omega
          rw [List.take_length]
          obtain ⟨q, hq⟩ : ∃ q, (x.any fun t => gtK g t u) = q := ⟨_, rfl⟩
          rw [hq] at HST ⊢
          clear hq
          cases q with
          | true =>
            have HN := Lib.hid (show ovAll g x y = ovAll g x (y.drop (k + 1)) from by rw [HE.out, HST.out]; rfl)
            go_wp2
            go_roundw
            case rel => exact ⟨k + 1, by omega, by go_num, HN.out, HBw.out⟩
            case measure => simp [intOf]; omega
          | false =>
            have HN := Lib.hid (show overT g x y = false from by rw [HOV.out, HE.out, HST.out]; simp)
            go_wp2
            go_ret
            exact ⟨by rw [HN.out]; rfl, HBw.out⟩
    · obtain rfl : k = y.length := by omega
      have HN := Lib.hid (show overT g x y = decide (0 < x.length) from by rw [HOV.out, HE.out, List.drop_of_length_le (Nat.le_refl _)]; simp [ovAll])
      go_wp2
      go_ret
      exact ⟨by rw [HN.out]; rfl, HBo.out⟩

set_option maxRecDepth 100000 in
set_option maxHeartbeats 4000000 in
theorem rRows_any (g : Sg) (A B : List T) (hoa : ∀ t ∈ A, errT g t = 0) (hob : ∀ t ∈ B, errT g t = 0) (hla : A.length ≤ 1000000) (hlb : B.length ≤ 1000000) (hsa : ∀ t ∈ A, t.size ≤ 1000000000000) (hsb : ∀ t ∈ B, t.size ≤ 1000000000000) (n₀ : Nat) (ga : Option Addr) (gc : Nat) (pa : Option Addr) (ca : Nat) (pb : Option Addr) (cb : Nat) (w : World) (hn : n₀ ≤ w.heap.size) (hG : IsSg n₀ w g ga gc) (hA : IsArgs n₀ w A pa ca) (hB : IsArgs n₀ w B pb cb) :
    Calls Tryz.prog 131 #[.slice ga g.length gc, .slice pa A.length ca, .slice pb B.length cb] w fun e w' => e = .returned (.int .i64 (rowsT g A B)) ∧ Below w.heap.size w w' := by
  have C1 := Lib.hid (rWithout_any A B hla hlb hsa hsb n₀ pa ca pb cb w hn hA hB)
  have C2 := Lib.hid (fun (W : World) (hW : Below w.heap.size w W) => rWithout_any B A hlb hla hsb hsa n₀ pb cb pa ca W (Nat.le_trans hn hW.size) (hB.below (hW.mono hn)) (hA.below (hW.mono hn)))
  have HGG := Lib.hid (fun (W : World) (hW : Below w.heap.size w W) => (hG.below (hW.mono hn)).mono (Nat.le_trans hn hW.size))
  have HOA := Lib.hid (fun (t : T) (ht : t ∈ diffM A B) => hoa t (diffM_sub A B t ht))
  have HOB := Lib.hid (fun (t : T) (ht : t ∈ diffM B A) => hob t (diffM_sub B A t ht))
  have hd1 := diffM_length A B
  have hd2 := diffM_length B A
  have HR := Lib.hid (show rowsT g A B = if diffM A B = [] ∧ diffM B A = [] then 0 else if overT g (diffM A B) (diffM B A) then 1 else if overT g (diffM B A) (diffM A B) then -1 else 2 from rfl)
  clear hG hA hB hoa hob hsa hsb
  generalize diffM A B = x at *
  generalize diffM B A = y at *
  go_enter Tryz.func131, Tryz.ntmps131
  go_wp2_with fail
  refine C1.out.mono ?_
  rintro e w1 ⟨p1, c1, rfl, hX, hb1⟩
  have HX1 := Lib.hid hX
  have HB1 := Lib.hid hb1
  clear hX hb1
  go_wp2_with fail
  refine (C2.out w1 HB1.out).mono ?_
  rintro e w2 ⟨p2, c2, rfl, hY, hb2⟩
  have HX2 := Lib.hid ((HX1.out.below hb2).mono hb2.size)
  have HY2 := Lib.hid hY
  have HB2 := Lib.hid (HB1.out.trans (hb2.mono HB1.out.size))
  clear hY hb2 HX1
  by_cases h0 : x = [] ∧ y = []
  · have HZ := Lib.hid (show rowsT g A B = 0 from by rw [HR.out, if_pos h0])
    obtain ⟨rfl, rfl⟩ := h0
    go_wp2
    go_ret
    exact ⟨by rw [HZ.out]; rfl, HB2.out⟩
  have HR2 := Lib.hid (show rowsT g A B = if overT g x y then 1 else if overT g y x then -1 else 2 from by rw [HR.out, if_neg h0])
  have hrg : rightG g = true := by
    cases hue : x with
    | cons u us' => exact errT_right (HOA.out u (by rw [hue]; simp))
    | nil =>
      cases hve : y with
      | cons v vs' => exact errT_right (HOB.out v (by rw [hve]; simp))
      | nil => exact absurd ⟨hue, hve⟩ h0
  have CO1 := Lib.hid (rOver_any g hrg x y (fun t ht => errT_okT (HOA.out t ht)) (fun t ht => errT_okT (HOB.out t ht)) w2.heap.size ga gc p1 c1 p2 c2 w2 (Nat.le_refl _) (HGG.out w2 HB2.out) HX2.out HY2.out)
  have CO2 := Lib.hid (fun (W : World) (hW : Below w2.heap.size w2 W) => rOver_any g hrg y x (fun t ht => errT_okT (HOB.out t ht)) (fun t ht => errT_okT (HOA.out t ht)) w2.heap.size ga gc p2 c2 p1 c1 W hW.size ((HGG.out w2 HB2.out).below hW) (HY2.out.below hW) (HX2.out.below hW))
  have hlen : ((x.length : Int) + (y.length : Int) == 0) = false := by
    have : ¬ (x.length = 0 ∧ y.length = 0) := fun e => h0 ⟨List.eq_nil_of_length_eq_zero e.1, List.eq_nil_of_length_eq_zero e.2⟩
    simp only [beq_eq_false_iff_ne, ne_eq]; omega
  have hlen2 : ¬ ((x.length : Int) + (y.length : Int) = 0) := by simpa using hlen
  generalize overT g x y = q1 at *
  generalize overT g y x = q2 at *
  clear h0 hrg HX2 HY2 HOA HOB
  go_wp2_with fail
  refine CO1.out.mono ?_
  rintro e w3 ⟨rfl, hb3⟩
  have HB3 := Lib.hid (HB2.out.trans (hb3.mono HB2.out.size))
  have CO3 := Lib.hid (CO2.out w3 hb3)
  clear hb3
  cases q1 with
  | true =>
    have HZ := Lib.hid (show rowsT g A B = 1 from by rw [HR2.out]; rfl)
    go_wp2
    go_ret
    exact ⟨by rw [HZ.out]; rfl, HB3.out⟩
  | false =>
  go_wp2_with fail
  refine CO3.out.mono ?_
  rintro e w4 ⟨rfl, hb4⟩
  have HB4 := Lib.hid (HB3.out.trans (hb4.mono HB3.out.size))
  clear hb4
  cases q2 with
  | true =>
    have HZ := Lib.hid (show rowsT g A B = -1 from by rw [HR2.out]; rfl)
    go_wp2
    go_ret
    exact ⟨by rw [HZ.out]; rfl, HB4.out⟩
  | false =>
    have HZ := Lib.hid (show rowsT g A B = 2 from by rw [HR2.out]; rfl)
    go_wp2
    go_ret
    exact ⟨by rw [HZ.out]; rfl, HB4.out⟩

/-! ### Multi -/
end Go.Proofs.YtbdabdjpgmnejaaGreat

/- Steps through a region that only reads: split off RSm. -/
/- Steps through a region that only reads: what follows is shut in a structure, so that nothing unfolds it. -/
namespace Go.Proofs.YtbdabdjpgmnejaaGreat
set_option linter.unusedVariables false
set_option linter.unusedSimpArgs false
open Go.RowKit Go.Sort

/-- The rest of the lexical walk, shut. -/
structure WQ (P : Program) (ops : Array Oper) (C : World → Prop) (Q : Act → Prop) (l : List Oper) (a : Act) : Prop where
  out : wpQuiet P ops C Q l a
section
variable {P : Program} {ops : Array Oper} {C : World → Prop} {Q : Act → Prop} {a : Act} {o : Oper} {rest : List Oper}
theorem WQ.nil (h : Q a) : WQ P ops C Q [] a := ⟨wpQuiet_nil h⟩
theorem WQ.skip (hw : Region.wanted o (yielded ops a.tmps) = false) (h : WQ P ops C Q rest (a.put o.dst undef)) : WQ P ops C Q (o :: rest) a := by
  refine ⟨?_⟩
  unfold wpQuiet
  rw [hw]
  exact h.out
theorem WQ.two {v : Value} (hw : Region.wanted o (yielded ops a.tmps) = true) (h : ∀ w, C w → o.quietAt P a C w v) (hr : WQ P ops C Q rest (a.put o.dst v)) : WQ P ops C Q (o :: rest) a := by
  refine ⟨?_⟩
  unfold wpQuiet
  rw [hw]
  exact ⟨v, h, hr.out⟩
end
theorem wp_region_wq {P : Program} {id : Nat} {Q : Exit → Act → World → Prop} {a : Act} {w : World} {l : List Oper} (hm : P.follows .mixedOrders = true) (hB : Region.lexB .any l.toArray = true)
    (h : WQ P l.toArray (fun w' => ∃ p : Regrown, w' = grow (redrawn w p.d) p.os) (fun a' => ∀ w', (∃ p : Regrown, w' = grow (redrawn w p.d) p.os) → Q .normal a' w') l a) : (Code.region id l.toArray true).wp P Q a w :=
  wp_region_quiet_below hm hB h.out

end Go.Proofs.YtbdabdjpgmnejaaGreat
