/- Contracts of the bank's Clone of numbers, args and build. -/
import Derived.Test.YtkejacodofmlhaaBkE
import Derived.Test.YtkejacodofmlhaaOut
import Derived.Test.YtkejacodofmlhaaCl0
import Derived.Test.YtkejacodofmlhaaVa0
import Derived.Test.YtkejacodofmlhaaLat
namespace Go.Proofs.Ytkejacodofmlhaa
set_option linter.unusedVariables false
set_option linter.unusedSimpArgs false
open Go.RowKit Go.Maps

def IdsPost (zs : List Int) (w : World) (e : Ending) (w' : World) : Prop := ∃ a c, e = .returned (.slice a zs.length c) ∧ IsInts w' (.slice a zs.length c) zs ∧ (∀ p, a = some p → w.heap.size ≤ p.block) ∧ Below w.heap.size w w'

theorem isInts_of_owns {base : Nat} {w : World} {v : Value} {zs : List Int} (h : w.ownsRow base 3 1 v zs.length (zs.map (Value.int .i64))) : ∃ a c, v = .slice a zs.length c ∧ IsInts w v zs ∧ ∀ p, a = some p → base ≤ p.block := by
  have hcells := fun g hg => h.cells (g := g) hg
  rcases h.2 with ⟨rfl, h0⟩ | ⟨g, cap, cur, rfl, hg, hh, hn, hc, hs, _⟩
  · exact ⟨none, 0, by rw [h0], .inl ⟨rfl, List.eq_nil_of_length_eq_zero h0⟩, by simp⟩
  · refine ⟨_, cap, rfl, .inr ⟨g, cap, rfl, (Array.getElem?_eq_some_iff.1 hh).1, hn, hc, fun j z hz => ?_⟩, fun p hp => by cases hp; exact hg⟩
    have := hcells g rfl j (.int .i64 z) (by simp [hz])
    rw [show ((⟨g, 0, none⟩ : Addr).add j) = ⟨g, j, none⟩ from by unfold Addr.add; split <;> simp_all] at this
    exact this

set_option maxRecDepth 100000 in
set_option maxHeartbeats 1000000 in
theorem cloneI_any (zs : List Int) (hzs : zs.length ≤ 1000000000000) (b o c : Nat) (w : World) (hb : b < w.heap.size) (hcell : ∀ (j : Nat) (z : Int), zs[j]? = some z → w.cell? ⟨b, o + j, none⟩ = some (.int .i64 z)) :
    Calls Try.prog 61 #[.slice (some ⟨b, o, none⟩) zs.length c] w (IdsPost zs w) := by
  have q22 : ∀ (w : World) (a : Option Addr) (n c n' c' : Nat), (binOp .eql 48 (.slice a n c) (.slice none n' c')).run Try.prog w = .ok (.bool a.isNone) w := fun w a n c n' c' => Lib.run_eql_slice_nil w _ _ a n c n' c' Try.underlying48
  have hadd : ∀ j, ((⟨b, o, none⟩ : Addr).add j) = ⟨b, o + j, none⟩ := fun j => by unfold Addr.add; split <;> simp_all
  have H2 := Lib.hid (show ∀ (j : Nat) (u : Value), (zs.map (Value.int .i64))[j]? = some u → w.cell? ((⟨b, o, none⟩ : Addr).add j) = some u from fun j u hu => by
    rw [List.getElem?_map, Option.map_eq_some_iff] at hu
    obtain ⟨z, hz, rfl⟩ := hu
    rw [hadd]
    exact hcell j z hz)
  have H3 := Lib.hid (show ∀ u ∈ zs.map (Value.int .i64), u.oneCell' = true from fun u hu => by
    obtain ⟨z, _, rfl⟩ := List.mem_map.1 hu; rfl)
  have H1 := Lib.hid (show (zs.map (Value.int .i64)).length = zs.length * 1 from by simp)
  have HLT := Lib.hid (show ∀ j, ((⟨b, o, none⟩ : Addr).add j).block < w.heap.size from fun j => by rw [hadd]; exact hb)
  obtain ⟨i0, hi, hz0, hz1, hz2⟩ := info_parts info3
  clear hcell hadd
  go_enter Try.func61, Try.ntmps61
  go_wp2_with (at_builtin; refine stopHere ?_)
  refine Lib.hid ?_
  refine wpList_append_own _ rfl _ _ 48 rfl w.heap.size 3 i0 (.int .i64 0) 1 8 Try.underlying48 hi hz0 hz1 hz2 rfl (by decide) (.slice (some ⟨w.heap.size, 0, none⟩) 0 0) 0 [] rfl
    (World.ownsRow_made w #[] 0 (Nat.le_refl _) (by simp [maxLen]) rfl) ⟨b, o, none⟩ zs.length c (zs.map (Value.int .i64)) rfl H1.out (fun j u hj => (World.cell?_of_block (Below.heap_alloc w _ _ (HLT.out j))).trans (H2.out j u hj)) H3.out (by unfold maxLen; omega) (by omega) (by simp) ?_
  intro v' w2 hown hgr _
  have hb2 : Below w.heap.size w w2 := ((Below.refl _ w).alloc (Nat.le_refl _) _).grown hgr (by simp) (by intro k hk; simp [Value.ownBlock] at hk; omega)
  have HB := Lib.hid hb2
  have HO := Lib.hid hown
  clear hown hgr hb2
  go_wp2
  go_ret
  have hown := HO.out
  simp only [Nat.zero_add, List.nil_append] at hown
  obtain ⟨a, c, e, hi, hp⟩ := isInts_of_owns hown
  subst e
  exact ⟨a, c, rfl, hi, hp, HB.out⟩

/-- The cells of a row. -/
theorem IsK.rowCells {B Tb M : Nat} {W : World} {sv : Value} {rs : List (List Int)} (h : IsK B Tb W sv M rs) {i : Nat} {r : List Int} (hr : rs[i]? = some r) :
    ∃ g c, sv = .slice (some ⟨g, 0, none⟩) rs.length c ∧ g < W.heap.size ∧ rs.length ≤ c ∧ c ≤ maxLen ∧ RwOk r ∧ ∀ (j : Nat) (z : Int), r[j]? = some z → W.cell? ⟨g, i * 10 + j, none⟩ = some (.int .i64 z) := by
  have hil := (List.getElem?_eq_some_iff.1 hr).1
  have hrow := h.rows
  have hok := h.ok r (List.mem_of_getElem? hr)
  rcases hrow.2 with ⟨_, h0⟩ | ⟨g, cap, cur, e, hg, hh, hn, hc, hs, ht⟩
  · omega
  · refine ⟨g, cap, e, (Array.getElem?_eq_some_iff.1 hh).1, hn, hc, hok, fun j z hz => ?_⟩
    have hj : j < 10 := by have := (List.getElem?_eq_some_iff.1 hz).1; rw [hok.1] at this; exact this
    have key : ∀ (l : List (List Int)) (i : Nat), (∀ r ∈ l, RwOk r) → l[i]? = some r → (l.flatMap rowVals)[i * 10 + j]? = some (.int .i64 z) := by
      intro l
      induction l with
      | nil => intro i _ h; simp at h
      | cons x l ih =>
        intro i hl hi
        have hx : (rowVals x).length = 10 := by simp [rowVals, (hl x (by simp)).1]
        rcases i with _ | i
        · simp at hi
          subst hi
          rw [List.flatMap_cons, List.getElem?_append_left (by omega)]
          simp [rowVals, hz]
        · rw [List.flatMap_cons, List.getElem?_append_right (by omega), hx, show (i + 1) * 10 + j - 10 = i * 10 + j from by omega]
          exact ih i (fun r hr => hl r (by simp [hr])) (by simpa using hi)
    have hk := key rs i h.ok hr
    rw [← ht, List.getElem?_take] at hk
    split at hk
    · have : cur[i * 10 + j]? = some (.int .i64 z) := by simpa using hk
      simp [World.cell?, hh, this]
    · cases hk

set_option maxRecDepth 100000 in
set_option maxHeartbeats 4000000 in
theorem args_any (B Tb M : Nat) (sv : Value) (rs : List (List Int)) (w : World) (hG : IsK B Tb w sv M rs) (i : Nat) (h : Int) (ids : List Int) (hl : ids.length ≤ 8) (hr : rs[i]? = some (rowOf h ids.length ids)) :
    Calls Try.prog 43 #[.pointer (some ⟨Tb, 0, none⟩), .int .i64 (i : Int)] w (IdsPost ids w) := by
  obtain ⟨g, cap, rfl, hgl, hc1, hc2, hok, hcell⟩ := hG.rowCells hr
  have hil := (List.getElem?_eq_some_iff.1 hr).1
  have hTb := hG.lt
  have g0 : w.cell? ⟨Tb, 0, none⟩ = some (.slice (some ⟨g, 0, none⟩) rs.length cap) := by simp [World.cell?, hG.heap]
  have h4 := hG.few
  have hi0 : (0 : Int) ≤ (i : Int) := Int.natCast_nonneg _
  have hi1 : (i : Int) < (rs.length : Int) := by omega
  have hids : ∀ (j : Nat) (z : Int), ids[j]? = some z → (rowOf h ids.length ids)[2 + j]? = some z := fun j z hz => by
    have hj := (List.getElem?_eq_some_iff.1 hz).1
    show (h :: (ids.length : Int) :: (ids ++ List.replicate (8 - ids.length) 0))[2 + j]? = some z
    rw [show 2 + j = j + 1 + 1 from by omega, List.getElem?_cons_succ, List.getElem?_cons_succ, List.getElem?_append_left hj, hz]
  have hcount : (rowOf h ids.length ids)[1]? = some (ids.length : Int) := rfl
  unfold maxLen at hc2
  have HB := Lib.hid hG.base
  generalize hrow : rowOf h ids.length ids = row at *
  obtain ⟨z0, z1, z2, z3, z4, z5, z6, z7, z8, z9, rfl⟩ := ten hok.1
  have c0 : w.cell? ⟨g, i * 10, none⟩ = some (.int .i64 z0) := hcell 0 z0 rfl
  have c1 : w.cell? ⟨g, i * 10 + 1, none⟩ = some (.int .i64 z1) := hcell 1 z1 rfl
  have c2 : w.cell? ⟨g, i * 10 + 2, none⟩ = some (.int .i64 z2) := hcell 2 z2 rfl
  have c3 : w.cell? ⟨g, i * 10 + 3, none⟩ = some (.int .i64 z3) := hcell 3 z3 rfl
  have c4 : w.cell? ⟨g, i * 10 + 4, none⟩ = some (.int .i64 z4) := hcell 4 z4 rfl
  have c5 : w.cell? ⟨g, i * 10 + 5, none⟩ = some (.int .i64 z5) := hcell 5 z5 rfl
  have c6 : w.cell? ⟨g, i * 10 + 6, none⟩ = some (.int .i64 z6) := hcell 6 z6 rfl
  have c7 : w.cell? ⟨g, i * 10 + 7, none⟩ = some (.int .i64 z7) := hcell 7 z7 rfl
  have c8 : w.cell? ⟨g, i * 10 + 8, none⟩ = some (.int .i64 z8) := hcell 8 z8 rfl
  have c9 : w.cell? ⟨g, i * 10 + 9, none⟩ = some (.int .i64 z9) := hcell 9 z9 rfl
  have hz1 : z1 = (ids.length : Int) := by simpa using hcount
  rw [hz1] at c1
  obtain ⟨w1, hw1⟩ : ∃ w1, w.alloc (.cells #[.int .i64 z0, .int .i64 z1, .int .i64 z2, .int .i64 z3, .int .i64 z4, .int .i64 z5, .int .i64 z6, .int .i64 z7, .int .i64 z8, .int .i64 z9] 109) = w1 := ⟨_, rfl⟩
  rw [hz1] at hw1
  have hb1 : Below w.heap.size w w1 := by rw [← hw1]; exact (Below.refl _ _).alloc (Nat.le_refl _) _
  have hbk : w1.heap[w.heap.size]? = some (.cells #[.int .i64 z0, .int .i64 z1, .int .i64 z2, .int .i64 z3, .int .i64 z4, .int .i64 z5, .int .i64 z6, .int .i64 z7, .int .i64 z8, .int .i64 z9] 109 (0, 0)) := by rw [hz1, ← hw1]; exact heap_alloc_new w _
  have hcl : ∀ (j : Nat) (z : Int), ids[j]? = some z → w1.cell? ⟨w.heap.size, 2 + j, none⟩ = some (.int .i64 z) := fun j z hz => by
    have := hids j z hz
    have hv : (#[.int .i64 z0, .int .i64 z1, .int .i64 z2, .int .i64 z3, .int .i64 z4, .int .i64 z5, .int .i64 z6, .int .i64 z7, .int .i64 z8, .int .i64 z9] : Array Value)[2 + j]? = some (.int .i64 z) := by
      have e : (#[.int .i64 z0, .int .i64 z1, .int .i64 z2, .int .i64 z3, .int .i64 z4, .int .i64 z5, .int .i64 z6, .int .i64 z7, .int .i64 z8, .int .i64 z9] : Array Value) = (rowVals [z0, z1, z2, z3, z4, z5, z6, z7, z8, z9]).toArray := rfl
      rw [e]
      simp only [List.getElem?_toArray, rowVals, List.getElem?_map, this, Option.map_some]
    simp [World.cell?, hbk, hv]
  have hz : w1.heap.size = w.heap.size + 1 := by rw [← hw1]; simp
  have CN := Lib.hid (cloneI_any ids (by omega) w.heap.size 2 8 w1 (by omega) hcl)
  have e1 : w1.cell? ⟨w.heap.size, 1, none⟩ = some (.int .i64 (ids.length : Int)) := by rw [← hz1]; simp [World.cell?, hbk]
  have HB1 := Lib.hid hb1
  have hi8 : (ids.length : Int) ≤ 8 := by omega
  clear hG hr hcell hok hids hcount hrow hcl hbk hb1 hz hz1
  go_enter Try.func43, Try.ntmps43
  go_wp2_with fail
  refine CN.out.mono ?_
  rintro e w3 ⟨a3, c3, rfl, hI, hp, hb⟩
  have HP := Lib.hid hp
  clear hp
  have HI := Lib.hid hI
  have HB3 := Lib.hid hb
  clear hI hb CN
  go_wp2
  go_ret
  exact ⟨a3, c3, rfl, HI.out, fun p hp => Nat.le_trans HB1.out.size (HP.out p hp), HB1.out.trans (HB3.out.mono HB1.out.size)⟩

end Go.Proofs.Ytkejacodofmlhaa
