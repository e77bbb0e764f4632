/- QDe: joined of Wo10, Rck9, Lck. -/
import Derived.Test.YtbdabdjpgmnejaaGreatQDb
import Derived.Test.YtbdabdjpgmnejaaGreatQDd
import Derived.BigQuiet
import Derived.Deep.QuietTactic
import Derived.Lib.QuietBelow
import Derived.OwnWalk
import Derived.Test.YtbdabdjpgmnejaaGreatQDa
import Derived.Test.YtbdabdjpgmnejaaGreatQBo
import Derived.Test.YtbdabdjpgmnejaaGreatQBh
/- Contract of the document's answer for clauses: without. -/
namespace Go.Proofs.YtbdabdjpgmnejaaGreat
set_option linter.unusedVariables false
set_option linter.unusedSimpArgs false
open Go.RowKit

structure WkI (A B : List LV) (b1 ub k : Nat) (ov : Value) (us : List Bool) (O : List LV) (w wr : World) : Prop where
  b : Below b1 w wr
  n : b1 ≤ ub
  u : UsB ub us wr
  ul : us.length = B.length
  o : OL (· < b1) b1 ov O wr
  ne : ov.ownBlock ≠ some ub
  e : t3s O ++ witL ((t3s A).drop k) (remL (t3s B) us) = witL (t3s A) (t3s B)
  ol : O.length ≤ k
theorem WkI.later {A B : List LV} {b1 ub k : Nat} {ov : Value} {us : List Bool} {O : List LV} {w wr w' : World} (h : WkI A B b1 ub k ov us O w wr) (hn : b1 ≤ wr.heap.size) (hb : Below wr.heap.size wr w') : WkI A B b1 ub k ov us O w w' :=
  ⟨h.b.trans (hb.mono hn), h.n, h.u.later hb, h.ul, h.o.later (fun b hk => Nat.lt_of_lt_of_le hk hn) hb, h.ne, h.e, h.ol⟩
theorem drop_t3s {A : List LV} {k : Nat} {x : LV} (hx : A[k]? = some x) : (t3s A).drop k = x.t3 :: (t3s A).drop (k + 1) := by
  have h := t3s_get hx
  obtain ⟨hkl, hke⟩ := List.getElem?_eq_some_iff.1 h
  rw [List.drop_eq_getElem_cons hkl, hke]
/-- It is used by another one. -/
theorem WkI.use {A B : List LV} {b1 ub k j : Nat} {ov : Value} {us : List Bool} {O : List LV} {w wr : World} {x y : LV} (h : WkI A B b1 ub k ov us O w wr) (hx : A[k]? = some x) (h1 : us[j]? = some false) (h2 : B[j]? = some y) (hs : sameLB x.t3 y.t3 = true)
    (hno : ∀ (l : Nat) (z : Lt3), l < j → us[l]? = some false → (t3s B)[l]? = some z → sameLB x.t3 z = false) : WkI A B b1 ub (k + 1) ov (us.set j true) O w (wr.setCell ⟨ub, j, none⟩ (.bool true)) := by
  have he := h.e
  rw [drop_t3s hx, witL_use (mem_remL.2 ⟨j, h1, t3s_get h2⟩) hs, ← remL_set h1 (t3s_get h2) hs hno] at he
  have hb : Below b1 wr (wr.setCell ⟨ub, j, none⟩ (.bool true)) := (Below.refl _ _).setCell h.n _
  have hh : ∀ g, ov.ownBlock = some g → (wr.setCell ⟨ub, j, none⟩ (.bool true)).heap[g]? = wr.heap[g]? := fun g hg => Below.heap_setCell _ _ _ _ (fun e => h.ne (by rw [hg, e]))
  exact ⟨h.b.trans hb, h.n, h.u.set j true, by simpa using h.ul, h.o.kept hh (fun b hk => hb.block b hk) (fun _ x => x), h.ne, he, by have := h.ol; omega⟩
/-- It is left. -/
theorem WkI.keep {A B : List LV} {b1 ub k : Nat} {ov v' : Value} {us : List Bool} {O : List LV} {w wr w' : World} {x : LV} (h : WkI A B b1 ub k ov us O w wr) (hx : A[k]? = some x) (hxl : IsLv b1 wr x) (hno : ∀ (j : Nat) (z : Lt3), us[j]? = some false → (t3s B)[j]? = some z → sameLB x.t3 z = false)
    (hO : w'.ownsRow b1 36 5 v' (O ++ [x]).length (lcells (O ++ [x]))) (hg : wr.grownBy w' ov.ownBlock) (hv : v'.ownBlock = ov.ownBlock ∨ v'.ownBlock = some wr.heap.size) (hn : b1 ≤ wr.heap.size) : WkI A B b1 ub (k + 1) v' us (O ++ [x]) w w' := by
  have he := h.e
  rw [drop_t3s hx, witL_keep (fun y hy => by obtain ⟨j, h1, h2⟩ := mem_remL.1 hy; exact hno j y h1 h2)] at he
  have hul : ub < wr.heap.size := (Array.getElem?_eq_some_iff.1 h.u).1
  have hb : Below b1 wr w' := (Below.refl b1 wr).grown hg hn (fun k e => (h.o.block e).1)
  have hap := h.o.append hO hg (fun b hk => ⟨Nat.lt_of_lt_of_le hk hn, fun e => by have := (h.o.block e).1; have : b < b1 := hk; omega⟩) (fun y hy => by simp at hy; subst hy; exact isLvp_lt.2 hxl)
  refine ⟨h.b.trans hb, h.n, h.u.kept (hg.block ub hul (fun e => h.ne e.symm)), h.ul, hap, fun e => ?_, by rw [← he]; simp, by have := h.ol; simp; omega⟩
  rcases hv with hv | hv
  · exact h.ne (hv ▸ e)
  · rw [hv] at e; cases e; omega
def WkS (A B : List LV) (b1 ub : Nat) (w : World) (ov i : Value) (wr : World) : Prop := ∃ (k : Nat) (us : List Bool) (O : List LV), k ≤ A.length ∧ i = .int .i64 k ∧ WkI A B b1 ub k ov us O w wr
def NoS (B : List LV) (us : List Bool) (x : LV) (j : Nat) : Prop := ∀ (l : Nat) (z : Lt3), l < j → us[l]? = some false → (t3s B)[l]? = some z → sameLB x.t3 z = false
def WkJ (B : List LV) (us : List Bool) (x : LV) (w1 : World) (av jv : Value) (wr : World) : Prop := ∃ j : Nat, j ≤ B.length ∧ jv = .int .i64 j ∧ ((av = .int .i64 (-1) ∧ NoS B us x j) ∨ (∃ (l : Nat) (y : LV), av = .int .i64 l ∧ l < B.length ∧ us[l]? = some false ∧ B[l]? = some y ∧ sameLB x.t3 y.t3 = true ∧ NoS B us x l)) ∧ Below w1.heap.size w1 wr
/-- A row of literals, new or of the caller's. -/
def ClPost (D : List Lt3) (w : World) (e : Ending) (w' : World) : Prop := ∃ (P : List LV) (p : Option Addr) (c : Nat), t3s P = D ∧ e = .returned (.slice p P.length c) ∧ IsCl w'.heap.size w' P p c ∧ Below w.heap.size w w'

set_option maxRecDepth 100000 in
set_option maxHeartbeats 4000000 in
theorem without10_any (A B : List LV) (hla : A.length ≤ 1000000) (hlb : B.length ≤ 1000000) (hsa : ∀ x ∈ A, x.sz) (hsb : ∀ x ∈ B, x.sz) (n₀ : Nat) (pa : Option Addr) (ca : Nat) (pb : Option Addr) (cb : Nat) (w : World) (hn : n₀ ≤ w.heap.size) (hA : IsCl n₀ w A pa ca) (hB : IsCl n₀ w B pb cb) :
    Calls Tryz.prog 59 #[.slice pa A.length ca, .slice pb B.length cb] w (ClPost (witL (t3s A) (t3s B)) w) := by
  have HA := Lib.hid (hA.mono hn)
  have HB := Lib.hid (hB.mono hn)
  have hla1 := hA.1
  have hla2 := hA.2.1
  have hlb1 := hB.1
  have hlb2 := hB.2.1
  unfold maxLen at hla2 hlb2
  have HSA := Lib.hid hsa
  have HSB := Lib.hid hsb
  clear hA hB hsa hsb
  have hmk : ∀ W : World, (Instr.makeSlice 118 (.int .i64 (B.length : Int)) (.int .i64 (B.length : Int))).run Tryz.prog W = .ok (.slice (some ⟨W.heap.size, 0, none⟩) B.length B.length) (W.alloc (.cells (madeCells #[.bool false] B.length) 4)) := fun W => by
    obtain ⟨i0, hi, hz0, hz1, hz2⟩ := info_parts infoBool
    exact run_make_row 118 4 i0 _ Tryz.underlying118 hi hz0 hz1 rfl .i64 .i64 B.length (by rw [hz2]; omega) (by omega) W
  go_enter Tryz.func59, Tryz.ntmps59
  go_wp2
  have hI0 : WkI A B w.heap.size w.heap.size 0 (.slice none 0 0) (List.replicate B.length false) [] w (w.alloc (.cells (madeCells #[.bool false] B.length) 4)) := by
    refine ⟨(Below.refl _ _).alloc (Nat.le_refl _) _, Nat.le_refl _, ?_, by simp, OL.nil _ _ _, by simp [Value.ownBlock], ?_, Nat.le_refl _⟩
    · unfold UsB
      rw [heap_alloc_new]
      congr 2
      refine Array.ext (by simp [madeCells]) fun i h1 h2 => ?_
      simp [madeCells, Nat.mod_one]
    · have : B.length = (t3s B).length := by simp
      rw [this, remL_all]; rfl
  have HI0 := Lib.hid hI0
  have hz1 : w.heap.size ≤ (w.alloc (.cells (madeCells #[.bool false] B.length) 4)).heap.size := by simp
  generalize w.alloc (.cells (madeCells #[.bool false] B.length) 4) = w1 at HI0 hz1 ⊢
  clear hI0 hmk
  go_loopw [6, 7] (fun ov i wr => WkS A B w.heap.size w.heap.size w ov i wr) (fun _ i _ => A.length - (intOf i).toNat)
  case atStart => exact ⟨0, _, _, Nat.zero_le _, rfl, HI0.out⟩
  case round =>
    obtain ⟨k, us, O, hk, rfl, hI⟩ := hrel
    have HI := Lib.hid hI
    have hnz := hI.b.size
    clear hI HI0
    by_cases hlt : k < A.length
    · obtain ⟨b1, o1, x, rfl, hb1, hx, ⟨a0, a1, a2, a3, a4⟩, hxl⟩ := (HA.out.below HI.out.b).elem (i := k) hlt
      have hk0 : (0 : Int) ≤ (k : Int) := Int.natCast_nonneg _
      have hk1 : (k : Int) < (A.length : Int) := by omega
      have HX := Lib.hid (And.intro hx hxl)
      have hxs := HSA.out x (List.mem_of_getElem? hx)
      have hb1w : b1 < wr.heap.size := by omega
      have HA5 := Lib.hid (show At5 wr b1 (o1 + k * 5) x from ⟨a0, a1, a2, a3, a4⟩)
      clear hx hxl a0 a1 a2 a3 a4
      obtain ⟨wo, rfl⟩ : ∃ wo, wo = wr := ⟨_, rfl⟩
      go_wp2
      go_loopw [8, 9] (fun av jv W' => WkJ B us x wo av jv W') (fun av jv _ => B.length - (intOf jv).toNat)
      case atStart => exact ⟨0, Nat.zero_le _, rfl, .inl ⟨rfl, fun l z hl => by omega⟩, Below.refl _ _⟩
      case round =>
        obtain ⟨j, hj, rfl, hat, hB2⟩ := hrel
        have HB2 := Lib.hid hB2
        have hB2z := hB2.size
        have HI2 := Lib.hid (HI.out.later hnz hB2)
        obtain ⟨a0, a1, a2, a3, a4⟩ := HA5.out.keep (fun i => hB2.cell (p := ⟨b1, i, none⟩) hb1w)
        clear hB2
        have hj0 : (0 : Int) ≤ (j : Int) := Int.natCast_nonneg _
        rcases hat with ⟨rfl, hno⟩ | ⟨l, yl, rfl, hll, hl1, hl2, hl3, hl4⟩
        · have HNO := Lib.hid hno
          clear hno
          by_cases hjb : j < B.length
          · have hj1 : (j : Int) < (B.length : Int) := by omega
            have hul := HI2.out.ul
            obtain ⟨u, hu⟩ : ∃ u, us[j]? = some u := ⟨_, List.getElem?_eq_getElem (by omega)⟩
            have HU := Lib.hid hu
            have hcu := HI2.out.u.cell hu
            have fu := fun d os => cell_regrown hcu d os
            obtain ⟨b2, o2, y, rfl, hb2, hy, ⟨e0, e1, e2, e3, e4⟩, hyl⟩ := (HB.out.below HI2.out.b).elem (i := j) hjb
            have HY := Lib.hid hy
            have hys := HSB.out y (List.mem_of_getElem? hy)
            have CS := Lib.hid (fun (W : World) (hW : Below wr.heap.size wr W) => rLitSame_any x y hxs hys w.heap.size W (by have := hW.size; omega) ((HX.out.2.below (HB2.out.mono hnz)).below (hW.mono (by omega))) (hyl.below (hW.mono (by omega))))
            clear hu hy hul hyl
            cases u with
            | true =>
              clear CS e0 e1 e2 e3 e4 a0 a1 a2 a3 a4
              go_wp2
              refine wp_region_wq (by kernel_rfl) (by kernel_rfl) ?_
              repeat (first
                | (refine WQ.skip (by rfl) ?_; simp only [Act.put, List.setIfInBounds_toArray, List.set_cons_succ, List.set_cons_zero])
                | (apply WQ.two (by rfl); (intro w' hw'; obtain ⟨pq, rfl⟩ := hw'; go_simp; first | exact rfl); simp only [Act.put, List.setIfInBounds_toArray, List.set_cons_succ, List.set_cons_zero]))
              refine WQ.nil ?_
              intro _ hw'
              obtain ⟨⟨dq, osq⟩, hw''⟩ := hw'
              subst hw''
              go_wp2
              go_roundw
              case rel => exact ⟨j + 1, by omega, by go_num, .inl ⟨rfl, fun l z hl h1 h2 => by
                by_cases e : l = j
                · subst e; rw [HU.out] at h1; cases h1
                · exact HNO.out l z (by omega) h1 h2⟩, HB2.out.trans ((below_regrown wr dq osq).mono hB2z)⟩
              case measure => simp [intOf]; omega
            | false =>
              have f0 := fun d os => cell_regrown a0 d os
              have f1 := fun d os => cell_regrown a1 d os
              have f2 := fun d os => cell_regrown a2 d os
              have f3 := fun d os => cell_regrown a3 d os
              have f4 := fun d os => cell_regrown a4 d os
              have g0 := fun d os => cell_regrown e0 d os
              have g1 := fun d os => cell_regrown e1 d os
              have g2 := fun d os => cell_regrown e2 d os
              have g3 := fun d os => cell_regrown e3 d os
              have g4 := fun d os => cell_regrown e4 d os
              obtain ⟨s, hs⟩ : ∃ s, samL x.n x.l x.r y.n y.l y.r = s := ⟨_, rfl⟩
              have HS := Lib.hid (show sameLB x.t3 y.t3 = s from hs)
              rw [hs] at CS
              clear hs a0 a1 a2 a3 a4 e0 e1 e2 e3 e4
              go_wp2
              refine wp_region_wq (by kernel_rfl) (by kernel_rfl) ?_
              repeat (first
                | (refine WQ.skip (by rfl) ?_; simp only [Act.put, List.setIfInBounds_toArray, List.set_cons_succ, List.set_cons_zero])
                | (apply WQ.two (by rfl); (intro w' hw'; obtain ⟨pq, rfl⟩ := hw'; go_simp; first | (with_reducible exact Calls.regrown_of (CS.out _ (below_regrown _ _ _))) | exact rfl); simp only [Act.put, List.setIfInBounds_toArray, List.set_cons_succ, List.set_cons_zero]))
              refine WQ.nil ?_
              intro _ hw'
              obtain ⟨⟨dq, osq⟩, hw''⟩ := hw'
              subst hw''
              have HFIN := Lib.hid (HB2.out.trans ((below_regrown wr dq osq).mono hB2z))
              cases s with
              | true =>
                go_wp2
                go_roundw
                case rel => exact ⟨j + 1, by omega, by go_num, .inr ⟨j, y, rfl, hjb, HU.out, HY.out, HS.out, HNO.out⟩, HFIN.out⟩
                case measure => simp [intOf]; omega
              | false =>
                go_wp2
                go_roundw
                case rel => exact ⟨j + 1, by omega, by go_num, .inl ⟨rfl, fun l z hl h1 h2 => by
                  by_cases e : l = j
                  · subst e; rw [t3s_get HY.out] at h2; injection h2 with h2; subst h2; exact HS.out
                  · exact HNO.out l z (by omega) h1 h2⟩, HFIN.out⟩
                case measure => simp [intOf]; omega
          · obtain rfl : j = B.length := by omega
            have HNO2 := Lib.hid (show ∀ (l : Nat) (z : Lt3), us[l]? = some false → (t3s B)[l]? = some z → sameLB x.t3 z = false from fun l z h1 h2 => HNO.out l z (by have := (List.getElem?_eq_some_iff.1 h2).1; simpa using this) h1 h2)
            have hal : Below wr.heap.size wr (wr.alloc x.obj) := (Below.refl _ _).alloc (Nat.le_refl _) _
            have HI3 := Lib.hid (HI2.out.later (by omega) hal)
            have HSRC := Lib.hid (show SrcL (wr.alloc x.obj) [x] (some ⟨wr.heap.size, 0, none⟩) 1 from SrcL.of_one ⟨by simp [go_sem], by simp [go_sem], by simp [go_sem], by simp [go_sem], by simp [go_sem]⟩)
            have HXL := Lib.hid ((HX.out.2.below (HB2.out.mono hnz)).below (hal.mono (by omega)))
            have hz3 : w.heap.size ≤ (wr.alloc x.obj).heap.size := by simp; omega
            clear hal HNO
            go_wp2_with (at_builtin; refine stopHere ?_)
            generalize wr.alloc x.obj = w3 at HI3 HSRC HXL hz3 ⊢
            refine Lib.hid ?_
            refine wpList_append_ls rfl _ _ rfl (· < w.heap.size) w.heap.size _ O rfl HI3.out.o hz3 [x] _ _ rfl HSRC.out (by have := HI3.out.ol; simp; omega) ?_
            intro v5 w5 hO5 hg5 hv5
            have HI5 := Lib.hid (HI3.out.keep HX.out.1 HXL.out HNO2.out hO5 hg5 hv5 hz3)
            clear hO5 hg5 hv5
            go_wp2
            go_roundw
            case rel => exact ⟨k + 1, us, O ++ [x], by omega, by go_num, HI5.out⟩
            case measure => simp [intOf]; omega
        · have hlk0 : (0 : Int) ≤ (l : Int) := Int.natCast_nonneg _
          have hlk1 : (l : Int) < (B.length : Int) := by omega
          have hfr := HI2.out.u.frozen l
          have hcl := HI2.out.u.cell hl1
          have HI5 := Lib.hid (HI2.out.use HX.out.1 hl1 hl2 hl3 hl4)
          have hlneg : ¬ ((l : Int) < 0) := by omega
          clear hl1 hl2 hl3 hl4 a0 a1 a2 a3 a4
          by_cases hjb : j < B.length
          · have hj1 : (j : Int) < (B.length : Int) := by omega
            go_wp2
            go_roundw
            case rel => exact ⟨k + 1, us.set l true, O, by omega, by go_num, HI5.out⟩
            case measure => simp [intOf]; omega
          · have hj1 : ¬ (j : Int) < (B.length : Int) := by omega
            go_wp2
            go_roundw
            case rel => exact ⟨k + 1, us.set l true, O, by omega, by go_num, HI5.out⟩
            case measure => simp [intOf]; omega
    · obtain rfl : k = A.length := by omega
      have he := HI.out.e
      rw [List.drop_of_length_le (by simp)] at he
      simp only [witL, List.append_nil] at he
      obtain ⟨p, c, rfl, hR⟩ := HI.out.o.args (fun b hk => Nat.lt_of_lt_of_le hk hnz)
      have HR := Lib.hid hR
      have HE := Lib.hid he
      clear hR he
      go_wp2
      go_ret
      exact ⟨O, p, c, HE.out, rfl, HR.out, HI.out.b⟩

end Go.Proofs.YtbdabdjpgmnejaaGreat

/- Contract of the document's answer: Check of literals (layer 9). -/
namespace Go.Proofs.YtbdabdjpgmnejaaGreat
set_option linter.unusedVariables false
set_option linter.unusedSimpArgs false
open Go.RowKit

set_option maxRecDepth 100000 in
set_option maxHeartbeats 4000000 in
theorem rLitCheck_any (g : Sg) (x : LV) (hx : x.sz) (n₀ : Nat) (ga : Option Addr) (gc : Nat) (w : World) (hn : n₀ ≤ w.heap.size) (hG : IsSg n₀ w g ga gc) (hX : IsLv n₀ w x) :
    Calls Tryz.prog 58 #[.slice ga g.length gc, x.v] w fun e w' => e = .returned (.int .i64 (errL g x.l x.r)) ∧ Below w.heap.size w w' := by
  have d0 := (((Later.below (Below.refl _ w)).and (later_lv (hX.mono hn))).and (later_sg (hG.mono hn))).pushL (Below.refl _ _) x
  have C1 := Lib.hid (fun (W : World) (hG : IsSg W.heap.size W g ga gc) (hX : IsLv W.heap.size W x) => r7Term_any g x.l hx.1 W.heap.size ga gc x.pa x.ca W (Nat.le_refl _) hG hX.la)
  have C2 := Lib.hid (fun (W : World) (hG : IsSg W.heap.size W g ga gc) (hX : IsLv W.heap.size W x) => r7Term_any g x.r hx.2 W.heap.size ga gc x.pb x.cb W (Nat.le_refl _) hG hX.ra)
  have C3 := Lib.hid (fun (W : World) (hG : IsSg W.heap.size W g ga gc) (hX : IsLv W.heap.size W x) => r7Truth_any g x.l W.heap.size ga gc x.pa x.ca W (Nat.le_refl _) hG hX.la)
  have C4 := Lib.hid (fun (W : World) (hG : IsSg W.heap.size W g ga gc) (hX : IsLv W.heap.size W x) => r7Truth_any g x.r W.heap.size ga gc x.pb x.cb W (Nat.le_refl _) hG hX.ra)
  have D := Lib.hid d0
  clear d0 hG hX
  go_enter Tryz.func58, Tryz.ntmps58
  go_wp2_with fail
  generalize w.alloc x.obj = w1 at D ⊢
  generalize hb0 : w.heap.size = b0 at D ⊢
  have HB0 := Lib.hid hb0
  clear hb0
  refine (C1.out w1 D.out.now.2.1 D.out.now.2.2.1).mono ?_
  rintro e w2 ⟨rfl, hb⟩
  have D2 := Lib.hid (D.out.mv hb)
  clear hb D C1
  obtain ⟨⟨x0, x1, x2, x3, x4⟩, _⟩ := D2.out.now
  by_cases h1 : errT g x.l = 0
  case neg =>
    have HE := Lib.hid (errL_left (r := x.r) h1)
    have HQ := Lib.hid D2.out.now.2.2.2
    obtain ⟨k, hk⟩ : ∃ k, errT g x.l = k := ⟨_, rfl⟩
    rw [hk] at HE h1 ⊢
    have h2 : (k != 0) = true := by simpa using h1
    clear h1 hk
    go_wp2
    go_ret
    exact ⟨by rw [HE.out]; rfl, by rw [HB0.out]; exact HQ.out⟩
  have H1 := Lib.hid h1
  rw [h1]
  clear h1
  go_wp2_with fail
  refine (C2.out w2 D2.out.now.2.1 D2.out.now.2.2.1).mono ?_
  clear x0 x1 x2 x3 x4
  rintro e w3 ⟨rfl, hb⟩
  have D3 := Lib.hid (D2.out.mv hb)
  clear hb D2 C2
  obtain ⟨⟨x0, x1, x2, x3, x4⟩, _⟩ := D3.out.now
  by_cases h1 : errT g x.r = 0
  case neg =>
    have HE := Lib.hid (errL_right H1.out h1)
    have HQ := Lib.hid D3.out.now.2.2.2
    obtain ⟨k, hk⟩ : ∃ k, errT g x.r = k := ⟨_, rfl⟩
    rw [hk] at HE h1 ⊢
    have h2 : (k != 0) = true := by simpa using h1
    clear h1 hk
    go_wp2
    go_ret
    exact ⟨by rw [HE.out]; rfl, by rw [HB0.out]; exact HQ.out⟩
  have HE := Lib.hid (errL_sort H1.out h1)
  rw [h1]
  clear h1
  go_wp2_with fail
  refine (C3.out w3 D3.out.now.2.1 D3.out.now.2.2.1).mono ?_
  clear x0 x1 x2 x3 x4
  rintro e w4 ⟨rfl, hb⟩
  have D4 := Lib.hid (D3.out.mv hb)
  clear hb D3 C3
  obtain ⟨⟨x0, x1, x2, x3, x4⟩, _⟩ := D4.out.now
  cases hp : predS g x.l.head with
  | true =>
    have HQ := Lib.hid D4.out.now.2.2.2
    by_cases hr : x.r.head = 0
    · have HS := Lib.hid (show errL g x.l x.r = 0 from by rw [HE.out]; unfold sortE; rw [if_pos hp, if_pos hr])
      rw [hr] at x3
      clear hp hr
      go_wp2
      go_ret
      exact ⟨by rw [HS.out]; rfl, by rw [HB0.out]; exact HQ.out⟩
    · have HS := Lib.hid (show errL g x.l x.r = 10 from by rw [HE.out]; unfold sortE; rw [if_pos hp, if_neg hr])
      have hr' : (x.r.head != 0) = true := by simpa using hr
      clear hp hr
      go_wp2
      go_ret
      exact ⟨by rw [HS.out]; rfl, by rw [HB0.out]; exact HQ.out⟩
  | false =>
    have HS := Lib.hid (show errL g x.l x.r = if predS g x.r.head then 10 else 0 from by rw [HE.out]; unfold sortE; rw [if_neg (by rw [hp]; decide)])
    clear hp
    go_wp2_with fail
    refine (C4.out w4 D4.out.now.2.1 D4.out.now.2.2.1).mono ?_
    clear x0 x1 x2 x3 x4
    rintro e w5 ⟨rfl, hb⟩
    have HQ := Lib.hid (D4.out.mv hb).now.2.2.2
    clear hb D4 C4
    cases hq : predS g x.r.head with
    | true =>
      have HT := Lib.hid (show errL g x.l x.r = 10 from by rw [HS.out, hq]; rfl)
      clear hq
      go_wp2
      go_ret
      exact ⟨by rw [HT.out]; rfl, by rw [HB0.out]; exact HQ.out⟩
    | false =>
      have HT := Lib.hid (show errL g x.l x.r = 0 from by rw [HS.out, hq]; rfl)
      clear hq
      go_wp2
      go_ret
      exact ⟨by rw [HT.out]; rfl, by rw [HB0.out]; exact HQ.out⟩

end Go.Proofs.YtbdabdjpgmnejaaGreat

/- Contract of lit's Check. -/
namespace Go.Proofs.YtbdabdjpgmnejaaGreat
set_option linter.unusedVariables false
set_option linter.unusedSimpArgs false
open Go.RowKit

/-- A claim: a literal with its signature. -/
abbrev ClV (g : Sg) (ga : Option Addr) (gc : Nat) (x : LV) : Value := .agg #[.slice ga g.length gc, .bool x.n, .int .i64 x.l.head, .slice x.pa x.l.args.length x.ca, .int .i64 x.r.head, .slice x.pb x.r.args.length x.cb]
abbrev ClO (g : Sg) (ga : Option Addr) (gc : Nat) (x : LV) : Obj := .cells #[.slice ga g.length gc, .bool x.n, .int .i64 x.l.head, .slice x.pa x.l.args.length x.ca, .int .i64 x.r.head, .slice x.pb x.r.args.length x.cb] 107
/-- A variable that holds a claim. -/
def Clc (b : Nat) (g : Sg) (ga : Option Addr) (gc : Nat) (x : LV) (X : World) : Prop :=
  X.cell? ⟨b, 0, none⟩ = some (.slice ga g.length gc) ∧ X.cell? ⟨b, 1, none⟩ = some (.bool x.n) ∧ X.cell? ⟨b, 2, none⟩ = some (.int .i64 x.l.head) ∧ X.cell? ⟨b, 3, none⟩ = some (.slice x.pa x.l.args.length x.ca) ∧ X.cell? ⟨b, 4, none⟩ = some (.int .i64 x.r.head) ∧ X.cell? ⟨b, 5, none⟩ = some (.slice x.pb x.r.args.length x.cb)
theorem later_clc (W : World) (g : Sg) (ga : Option Addr) (gc : Nat) (x : LV) : Later (Clc W.heap.size g ga gc x) (W.alloc (ClO g ga gc x)) := fun X hX =>
  ⟨(hX.cell (p := ⟨W.heap.size, 0, none⟩) (by simp)).trans (by simp [go_sem]), (hX.cell (p := ⟨W.heap.size, 1, none⟩) (by simp)).trans (by simp [go_sem]), (hX.cell (p := ⟨W.heap.size, 2, none⟩) (by simp)).trans (by simp [go_sem]),
    (hX.cell (p := ⟨W.heap.size, 3, none⟩) (by simp)).trans (by simp [go_sem]), (hX.cell (p := ⟨W.heap.size, 4, none⟩) (by simp)).trans (by simp [go_sem]), (hX.cell (p := ⟨W.heap.size, 5, none⟩) (by simp)).trans (by simp [go_sem])⟩
theorem Later.pushCl {F : World → Prop} {W W' : World} (k : Later F W) (hb : Below W.heap.size W W') (g : Sg) (ga : Option Addr) (gc : Nat) (x : LV) : Later (fun X => Clc W'.heap.size g ga gc x X ∧ F X) (W'.alloc (ClO g ga gc x)) :=
  (k.mv (hb.alloc hb.size _)).and (later_clc W' g ga gc x)

set_option maxRecDepth 100000 in
set_option maxHeartbeats 2000000 in
theorem clLeft_any (g : Sg) (x : LV) (hx : x.sz) (n₀ : Nat) (ga : Option Addr) (gc : Nat) (w : World) (hn : n₀ ≤ w.heap.size) (hG : IsSg n₀ w g ga gc) (hX : IsLv n₀ w x) :
    Calls Tryz.prog 90 #[ClV g ga gc x] w fun e w' => e = .returned (.int .i64 (errT g x.l)) ∧ Below w.heap.size w w' := by
  have hF : Below w.heap.size w (w.alloc (ClO g ga gc x)) := (Below.refl _ w).alloc (Nat.le_refl _) _
  have hX1 := hX.below (hF.mono hn)
  have C := Lib.hid (sgTerm_any g x.l hx.1 n₀ ga gc x.pa x.ca (w.alloc (ClO g ga gc x)) (by simp; omega) (hG.below (hF.mono hn)) hX.lw hX1.la)
  have HF := Lib.hid hF
  clear hX hF hX1 hG
  go_enter Tryz.func90, Tryz.ntmps90
  go_wp2_with fail
  refine C.out.mono ?_
  rintro e w2 ⟨rfl, hb⟩
  have HB := Lib.hid (HF.out.trans (hb.mono HF.out.size))
  clear hb
  go_wp2
  go_ret
  exact ⟨rfl, HB.out⟩

set_option maxRecDepth 100000 in
set_option maxHeartbeats 2000000 in
theorem clRight_any (g : Sg) (x : LV) (hx : x.sz) (n₀ : Nat) (ga : Option Addr) (gc : Nat) (w : World) (hn : n₀ ≤ w.heap.size) (hG : IsSg n₀ w g ga gc) (hX : IsLv n₀ w x) :
    Calls Tryz.prog 91 #[ClV g ga gc x] w fun e w' => e = .returned (.int .i64 (errT g x.r)) ∧ Below w.heap.size w w' := by
  have hF : Below w.heap.size w (w.alloc (ClO g ga gc x)) := (Below.refl _ w).alloc (Nat.le_refl _) _
  have hX1 := hX.below (hF.mono hn)
  have C := Lib.hid (sgTerm_any g x.r hx.2 n₀ ga gc x.pb x.cb (w.alloc (ClO g ga gc x)) (by simp; omega) (hG.below (hF.mono hn)) hX.rw hX1.ra)
  have HF := Lib.hid hF
  clear hX hF hX1 hG
  go_enter Tryz.func91, Tryz.ntmps91
  go_wp2_with fail
  refine C.out.mono ?_
  rintro e w2 ⟨rfl, hb⟩
  have HB := Lib.hid (HF.out.trans (hb.mono HF.out.size))
  clear hb
  go_wp2
  go_ret
  exact ⟨rfl, HB.out⟩

/-- Is its symbol in the signature, or a variable? -/
theorem head_lt {g : Sg} {t : T} (h : errT g t = 0) (h0 : 0 ≤ t.head) : t.head < (g.length : Int) := by
  have hf := (errT_ok h).2.2.1
  rw [fitsT_eq] at hf
  unfold armOk at hf
  cases hx : g[t.head.toNat]? with
  | none => rw [hx] at hf; simp at hf; omega
  | some x => have := (List.getElem?_eq_some_iff.1 hx).1; omega

set_option maxRecDepth 100000 in
set_option maxHeartbeats 2000000 in
theorem clAtom_any (g : Sg) (x : LV) (t : T) (ht : errT g t = 0) (n₀ : Nat) (ga : Option Addr) (gc : Nat) (a : Option Addr) (c : Nat) (w : World) (hn : n₀ ≤ w.heap.size) (hG : IsSg n₀ w g ga gc) :
    Calls Tryz.prog 122 #[ClV g ga gc x, tm t.head a t.args.length c] w fun e w' => e = .returned (.bool (predS g t.head)) ∧ Below w.heap.size w w' := by
  have hlg : g.length ≤ gc ∧ gc ≤ maxLen := ⟨hG.1, hG.2.1⟩
  unfold maxLen at hlg
  obtain ⟨hl3, hl4⟩ := hlg
  have HF := Lib.hid (show Below w.heap.size w ((w.alloc (ClO g ga gc x)).alloc (tmCells t.head a t.args.length c)) from ((Below.refl _ w).alloc (Nat.le_refl _) _).alloc (by simp) _)
  by_cases q1 : t.head < 0
  · have HD := Lib.hid (show predS g t.head = false from by unfold predS; simp [show ¬ 0 ≤ t.head from by omega])
    clear hG ht
    go_enter Tryz.func122, Tryz.ntmps122
    go_wp2
    go_ret
    exact ⟨by rw [HD.out]; rfl, HF.out⟩
  · have hk0 : (0 : Int) ≤ t.head := by omega
    have hk1 := head_lt ht hk0
    obtain ⟨b, o, y, rfl, hbn, hs, hxw, hc0, hc1, hc2, hc3⟩ := hG.elem (i := t.head.toNat) (by omega)
    have HD := Lib.hid (show predS g t.head = y.tr from by unfold predS; rw [hs]; simp [hk0])
    have hbw : b < w.heap.size := by omega
    clear hG hs hxw hc0 hc1 hc2 ht q1
    go_enter Tryz.func122, Tryz.ntmps122
    go_wp2
    go_ret
    exact ⟨by rw [HD.out]; cases y.tr <;> rfl, HF.out⟩

set_option maxRecDepth 100000 in
set_option maxHeartbeats 4000000 in
theorem clSorts_any (g : Sg) (x : LV) (h1 : errT g x.l = 0) (h2 : errT g x.r = 0) (n₀ : Nat) (ga : Option Addr) (gc : Nat) (w : World) (hn : n₀ ≤ w.heap.size) (hG : IsSg n₀ w g ga gc) (hX : IsLv n₀ w x) :
    Calls Tryz.prog 92 #[ClV g ga gc x] w fun e w' => e = .returned (.int .i64 (sortE g x.l x.r)) ∧ Below w.heap.size w w' := by
  have d0 := (((Later.below (Below.refl _ w)).and (later_lv (hX.mono hn))).and (later_sg (hG.mono hn))).pushCl (Below.refl _ _) g ga gc x
  have C1 := Lib.hid (fun (W : World) (hG : IsSg W.heap.size W g ga gc) => clAtom_any g x x.l h1 W.heap.size ga gc x.pa x.ca W (Nat.le_refl _) hG)
  have C2 := Lib.hid (fun (W : World) (hG : IsSg W.heap.size W g ga gc) => clAtom_any g x x.r h2 W.heap.size ga gc x.pb x.cb W (Nat.le_refl _) hG)
  have D := Lib.hid d0
  clear d0 hG hX h1 h2
  go_enter Tryz.func92, Tryz.ntmps92
  go_wp2_with fail
  generalize w.alloc (ClO g ga gc x) = w1 at D ⊢
  generalize hb0 : w.heap.size = b0 at D ⊢
  have HB0 := Lib.hid hb0
  clear hb0
  refine (C1.out w1 D.out.now.2.1).mono ?_
  rintro e w2 ⟨rfl, hb⟩
  have D2 := Lib.hid (D.out.mv hb)
  clear hb D
  obtain ⟨⟨x0, x1, x2, x3, x4, x5⟩, _⟩ := D2.out.now
  obtain ⟨p, hp⟩ : ∃ p, predS g x.l.head = p := ⟨_, rfl⟩
  have HP := Lib.hid hp
  rw [hp]
  cases p with
  | true =>
    by_cases hr : x.r.head = 0
    · have HS := Lib.hid (show sortE g x.l x.r = 0 from by unfold sortE; rw [if_pos hp, if_pos hr])
      have HQ := Lib.hid D2.out.now.2.2.2
      rw [hr] at x4
      clear hr hp
      go_wp2
      go_ret
      exact ⟨by rw [HS.out]; rfl, by rw [HB0.out]; exact HQ.out⟩
    · have HS := Lib.hid (show sortE g x.l x.r = 10 from by unfold sortE; rw [if_pos hp, if_neg hr])
      have hr' : (x.r.head == 0) = false := by simpa using hr
      clear hr hp
      go_wp2_with fail
      refine (C1.out w2 D2.out.now.2.1).mono ?_
      clear x0 x1 x2 x3 x4 x5
      rintro e w3 ⟨rfl, hb⟩
      have HQ := Lib.hid (D2.out.mv hb).now.2.2.2
      clear hb D2
      rw [HP.out]
      go_wp2
      go_ret
      exact ⟨by rw [HS.out]; rfl, by rw [HB0.out]; exact HQ.out⟩
  | false =>
    have HS := Lib.hid (show sortE g x.l x.r = if predS g x.r.head then 10 else 0 from by unfold sortE; rw [if_neg (by rw [hp]; decide)])
    clear hp
    go_wp2_with fail
    refine (C1.out w2 D2.out.now.2.1).mono ?_
    clear x0 x1 x2 x3 x4 x5
    rintro e w3 ⟨rfl, hb⟩
    have D3 := Lib.hid (D2.out.mv hb)
    clear hb D2
    rw [HP.out]
    obtain ⟨⟨x0, x1, x2, x3, x4, x5⟩, _⟩ := D3.out.now
    go_wp2_with fail
    refine (C2.out w3 D3.out.now.2.1).mono ?_
    clear x0 x1 x2 x3 x4 x5
    rintro e w4 ⟨rfl, hb⟩
    have HQ := Lib.hid (D3.out.mv hb).now.2.2.2
    clear hb D3
    cases hq : predS g x.r.head with
    | true =>
      have HT := Lib.hid (show sortE g x.l x.r = 10 from by rw [HS.out, hq]; rfl)
      clear hq
      go_wp2
      go_ret
      exact ⟨by rw [HT.out]; rfl, by rw [HB0.out]; exact HQ.out⟩
    | false =>
      have HT := Lib.hid (show sortE g x.l x.r = 0 from by rw [HS.out, hq]; rfl)
      clear hq
      go_wp2
      go_ret
      exact ⟨by rw [HT.out]; rfl, by rw [HB0.out]; exact HQ.out⟩

abbrev fnV (f : Nat) : Value := .func (.func f) #[] #[]
/-- The three tests in memory. -/
def TsM (bt : Nat) (X : World) : Prop := X.cell? ⟨bt, 0, none⟩ = some (fnV 90) ∧ X.cell? ⟨bt, 1, none⟩ = some (fnV 91) ∧ X.cell? ⟨bt, 2, none⟩ = some (fnV 92)
def TeI (g : Sg) (x : LV) (w1 : World) (i : Value) (wr : World) : Prop :=
  Below w1.heap.size w1 wr ∧ (i = .int .i64 0 ∨ (i = .int .i64 1 ∧ errT g x.l = 0) ∨ (i = .int .i64 2 ∧ errT g x.l = 0 ∧ errT g x.r = 0) ∨ (i = .int .i64 3 ∧ errL g x.l x.r = 0))

set_option maxRecDepth 100000 in
set_option maxHeartbeats 4000000 in
/-- The tests of a literal, one by one. -/
theorem litFirst_any (g : Sg) (x : LV) (hx : x.sz) (n₀ : Nat) (ga : Option Addr) (gc : Nat) (bt : Nat) (w : World) (hn : n₀ ≤ w.heap.size) (hG : IsSg n₀ w g ga gc) (hX : IsLv n₀ w x) (hbt : bt < w.heap.size) (ht : TsM bt w) :
    Calls Tryz.prog 89 #[ClV g ga gc x, .slice (some ⟨bt, 0, none⟩) 3 3] w fun e w' => e = .returned (.int .i64 (errL g x.l x.r)) ∧ Below w.heap.size w w' := by
  have hT : Later (TsM bt) w := fun X hX => ⟨(hX.cell (p := ⟨bt, 0, none⟩) hbt).trans ht.1, (hX.cell (p := ⟨bt, 1, none⟩) hbt).trans ht.2.1, (hX.cell (p := ⟨bt, 2, none⟩) hbt).trans ht.2.2⟩
  have d0 := ((((Later.below (Below.refl _ w)).and (later_lv (hX.mono hn))).and (later_sg (hG.mono hn))).and hT).pushCl (Below.refl _ _) g ga gc x
  have C1 := Lib.hid (fun (W : World) (hG : IsSg W.heap.size W g ga gc) (hX : IsLv W.heap.size W x) => clLeft_any g x hx W.heap.size ga gc W (Nat.le_refl _) hG hX)
  have C2 := Lib.hid (fun (W : World) (hG : IsSg W.heap.size W g ga gc) (hX : IsLv W.heap.size W x) => clRight_any g x hx W.heap.size ga gc W (Nat.le_refl _) hG hX)
  have C3 := Lib.hid (fun (h1 : errT g x.l = 0) (h2 : errT g x.r = 0) (W : World) (hG : IsSg W.heap.size W g ga gc) (hX : IsLv W.heap.size W x) => clSorts_any g x h1 h2 W.heap.size ga gc W (Nat.le_refl _) hG hX)
  have D := Lib.hid d0
  have HBT := Lib.hid hbt
  have eg1 := enters_of Tryz.func90 (by kernel_rfl) rfl
  have eg2 := enters_of Tryz.func91 (by kernel_rfl) rfl
  have eg3 := enters_of Tryz.func92 (by kernel_rfl) rfl
  have hbs : bt < w.heap.size + 1 := by omega
  clear d0 hG hX hT ht
  go_enter Tryz.func89, Tryz.ntmps89
  go_wp2
  have hs1 : (w.alloc (ClO g ga gc x)).heap.size = w.heap.size + 1 := by simp
  generalize w.alloc (ClO g ga gc x) = w1 at D hs1 ⊢
  go_loopw [10] (fun i wr => TeI g x w1 i wr) (fun i _ => 3 - (intOf i).toNat)
  case atStart => exact ⟨Below.refl _ _, .inl rfl⟩
  case round =>
    obtain ⟨hB, hk⟩ := hrel
    have hbz := hB.size
    have HB := Lib.hid hB
    have D1 := Lib.hid (D.out.mv hB)
    have hbw : bt < wr.heap.size := by omega
    clear hB
    rcases hk with rfl | ⟨rfl, h1⟩ | ⟨rfl, h1, h2⟩ | ⟨rfl, h1⟩
    · obtain ⟨⟨x0, x1, x2, x3, x4, x5⟩, ⟨t0, t1, t2⟩, _⟩ := D1.out.now
      go_wp2_with fail
      refine (C1.out wr D1.out.now.2.2.1 D1.out.now.2.2.2.1).mono ?_
      rintro e w2 ⟨rfl, hb⟩
      clear x0 x1 x2 x3 x4 x5 t0 t1 t2
      have HB2 := Lib.hid (HB.out.trans (hb.mono hbz))
      have HQ := Lib.hid (D1.out.mv hb).now.2.2.2.2
      clear hb
      by_cases h : errT g x.l = 0
      · have H := Lib.hid h
        rw [h]
        clear h
        go_wp2
        go_roundw
        case rel => exact ⟨HB2.out, .inr (.inl ⟨rfl, H.out⟩)⟩
        case measure => simp [intOf]
      · have HE := Lib.hid (errL_left (r := x.r) h)
        obtain ⟨k, hk⟩ : ∃ k, errT g x.l = k := ⟨_, rfl⟩
        rw [hk] at HE h ⊢
        have h2 : (k != 0) = true := by simpa using h
        clear h hk
        go_wp2
        go_ret
        exact ⟨by rw [HE.out]; rfl, HQ.out⟩
    · obtain ⟨⟨x0, x1, x2, x3, x4, x5⟩, ⟨t0, t1, t2⟩, _⟩ := D1.out.now
      have H1 := Lib.hid h1
      clear h1
      go_wp2_with fail
      refine (C2.out wr D1.out.now.2.2.1 D1.out.now.2.2.2.1).mono ?_
      rintro e w2 ⟨rfl, hb⟩
      clear x0 x1 x2 x3 x4 x5 t0 t1 t2
      have HB2 := Lib.hid (HB.out.trans (hb.mono hbz))
      have HQ := Lib.hid (D1.out.mv hb).now.2.2.2.2
      clear hb
      by_cases h : errT g x.r = 0
      · have H := Lib.hid h
        rw [h]
        clear h
        go_wp2
        go_roundw
        case rel => exact ⟨HB2.out, .inr (.inr (.inl ⟨rfl, H1.out, H.out⟩))⟩
        case measure => simp [intOf]
      · have HE := Lib.hid (errL_right H1.out h)
        obtain ⟨k, hk⟩ : ∃ k, errT g x.r = k := ⟨_, rfl⟩
        rw [hk] at HE h ⊢
        have h2 : (k != 0) = true := by simpa using h
        clear h hk
        go_wp2
        go_ret
        exact ⟨by rw [HE.out]; rfl, HQ.out⟩
    · obtain ⟨⟨x0, x1, x2, x3, x4, x5⟩, ⟨t0, t1, t2⟩, _⟩ := D1.out.now
      have HE := Lib.hid (errL_sort h1 h2)
      have C4 := Lib.hid (C3.out h1 h2)
      clear h1 h2
      go_wp2_with fail
      refine (C4.out wr D1.out.now.2.2.1 D1.out.now.2.2.2.1).mono ?_
      rintro e w2 ⟨rfl, hb⟩
      clear x0 x1 x2 x3 x4 x5 t0 t1 t2
      have HB2 := Lib.hid (HB.out.trans (hb.mono hbz))
      have HQ := Lib.hid (D1.out.mv hb).now.2.2.2.2
      clear hb
      by_cases h : sortE g x.l x.r = 0
      · have H := Lib.hid (HE.out.trans h)
        rw [h]
        clear h
        go_wp2
        go_roundw
        case rel => exact ⟨HB2.out, .inr (.inr (.inr ⟨rfl, H.out⟩))⟩
        case measure => simp [intOf]
      · obtain ⟨k, hk⟩ : ∃ k, sortE g x.l x.r = k := ⟨_, rfl⟩
        rw [hk] at HE h ⊢
        have h2 : (k != 0) = true := by simpa using h
        clear h hk
        go_wp2
        go_ret
        exact ⟨by rw [HE.out]; rfl, HQ.out⟩
    · have HQ := Lib.hid D1.out.now.2.2.2.2
      have HE := Lib.hid h1
      clear h1
      go_wp2
      go_ret
      exact ⟨by rw [HE.out]; rfl, HQ.out⟩

set_option maxRecDepth 100000 in
set_option maxHeartbeats 4000000 in
theorem litCheck_any (g : Sg) (x : LV) (hx : x.sz) (n₀ : Nat) (ga : Option Addr) (gc : Nat) (w : World) (hn : n₀ ≤ w.heap.size) (hG : IsSg n₀ w g ga gc) (hX : IsLv n₀ w x) :
    Calls Tryz.prog 51 #[.slice ga g.length gc, x.v] w fun e w' => e = .returned (.int .i64 (errL g x.l x.r)) ∧ Below w.heap.size w w' := by
  obtain ⟨W1, hW1⟩ : ∃ W1, (w.alloc x.obj).alloc (.cells #[fnV 90, fnV 91, fnV 92] 108) = W1 := ⟨_, rfl⟩
  have hs1 : W1.heap.size = w.heap.size + 2 := by rw [← hW1]; simp
  have hF1 : Below w.heap.size w W1 := by rw [← hW1]; exact ((Below.refl _ w).alloc (Nat.le_refl _) _).alloc (by simp) _
  have ht : TsM (w.heap.size + 1) W1 := by rw [← hW1]; exact ⟨by simp [go_sem], by simp [go_sem], by simp [go_sem]⟩
  have HC := Lib.hid (litFirst_any g x hx n₀ ga gc (w.heap.size + 1) W1 (by omega) (hG.below (hF1.mono hn)) (hX.below (hF1.mono hn)) (by omega) ht)
  have HF := Lib.hid hF1
  clear hG hX hF1 ht
  go_enter Tryz.func51, Tryz.ntmps51
  go_wp2_with fail
  try rw [hW1]
  refine HC.out.mono ?_
  rintro e w2 ⟨rfl, hb⟩
  have HB := Lib.hid (HF.out.trans (hb.mono HF.out.size))
  clear hb
  go_wp2
  go_ret
  exact ⟨rfl, HB.out⟩

end Go.Proofs.YtbdabdjpgmnejaaGreat
