/- The walk of WeighNames. -/
import Derived.Test.YtacbkiknpnokcaaAw7
import Derived.Test.YtacbkiknpnokcaaFw7
namespace Go.Proofs.Ytacbkiknpnokcaa
set_option linter.unusedVariables false
set_option linter.unusedSimpArgs false
open Go.RowKit

theorem difSg_get {g : Sg} (h : difSg g = true) {i : Nat} {x : Sy} (hi : g[i]? = some x) : idxSy x.name g = some i := by
  have := List.all_eq_true.1 h i (List.mem_range.2 (List.getElem?_eq_some_iff.1 hi).1)
  simpa [hi] using this
theorem right_dif {g : Sg} (h : errG g = 0) : rightG g = true ∧ difSg g = true ∧ 1 ≤ g.length ∧ g.length ≤ 256 := by
  unfold errG at h
  by_cases hr : rightG g = true
  · have := hr
    simp only [rightG, Bool.and_eq_true, decide_eq_true_eq] at this
    exact ⟨hr, this.2, this.1.1.1.1, this.1.1.1.2⟩
  · rw [if_neg hr] at h; cases h

def noneB (name : ByteArray) (g : Sg) (k : Nat) : Bool := (g.take k).all fun x => decide (x.name ≠ name)
def WNI (name : ByteArray) (g : Sg) (w : World) (nv i : Value) (wr : World) : Prop := ∃ k : Nat, k ≤ g.length ∧ i = .int .i64 k ∧ nv = .bool (noneB name g k) ∧ Below w.heap.size w wr
theorem noneB_step {name : ByteArray} {g : Sg} {k : Nat} {x : Sy} (h : g[k]? = some x) : noneB name g (k + 1) = (noneB name g k && decide (x.name ≠ name)) := by
  obtain ⟨hi, e⟩ := List.getElem?_eq_some_iff.1 h
  unfold noneB
  rw [List.take_succ_eq_append_getElem hi, e]
  simp
theorem noneB_end {name : ByteArray} {g : Sg} : (!noneB name g g.length) = (idxSy name g).isSome := by
  unfold noneB
  rw [List.take_length]
  cases h : idxSy name g with
  | none =>
    have := idxSy_none h
    simp only [Option.isSome_none, Bool.not_eq_false', List.all_eq_true, decide_eq_true_eq]
    exact this
  | some i =>
    obtain ⟨x, h1, h2, _⟩ := idxSy_get h
    simp only [Option.isSome_some, Bool.not_eq_true', List.all_eq_false]
    exact ⟨x, List.mem_of_getElem? h1, by simp [h2]⟩

set_option maxRecDepth 100000 in
set_option maxHeartbeats 4000000 in
theorem weighNames_walk (g : Sg) (name : ByteArray) (ga : Option Addr) (gc : Nat) (w : World) (hns : name.size ≤ maxLen) (hG : IsSg w.heap.size w g ga gc) :
    Calls Try.prog 5 #[.slice ga g.length gc, .string name] w fun e w' => e = .returned (.bool true) ∧ Below w.heap.size w w' := by
  have hlg : g.length ≤ gc ∧ gc ≤ maxLen := ⟨hG.1, hG.2.1⟩
  unfold maxLen at hlg hns
  obtain ⟨hl3, hl4⟩ := hlg
  have D := Lib.hid (later_sg hG)
  have CA := Lib.hid awake7_any
  have CF := Lib.hid (fewG_any g w.heap.size ga gc w (Nat.le_refl _) hG)
  clear hG
  go_enter Try.func5, Try.ntmps5
  go_wp2_with fail
  refine CF.out.mono ?_
  rintro e w1 ⟨b, rfl, hb1⟩
  have B1 := Lib.hid hb1
  clear hb1
  cases b with
  | false =>
    go_wp2
    go_ret
    exact ⟨rfl, B1.out⟩
  | true =>
    by_cases q1 : 200 < name.size
    · go_wp2
      go_ret
      exact ⟨rfl, B1.out⟩
    · go_wp2_with fail
      refine (sgCheck_any g w1.heap.size ga gc w1 (Nat.le_refl _) (D.out w1 B1.out)).mono ?_
      rintro e w2 ⟨rfl, hb2⟩
      have B2 := Lib.hid (B1.out.trans (hb2.mono B1.out.size))
      clear hb2 B1
      by_cases q2 : errG g = 0
      · obtain ⟨_, hdf, hg1, hg2⟩ := right_dif q2
        have HDF := Lib.hid hdf
        rw [q2]
        clear q2 hdf
        go_wp2
        go_loopw [5, 6] (fun nv i wr => WNI name g w nv i wr) (fun _ i _ => g.length - (intOf i).toNat)
        case atStart => exact ⟨0, Nat.zero_le _, rfl, rfl, B2.out⟩
        case round =>
          obtain ⟨k, hk, rfl, rfl, hB⟩ := hrel
          have HB := Lib.hid hB
          have hbz := hB.size
          by_cases hlt : k < g.length
          · obtain ⟨b, o, x, rfl, hbn, hs, hxw, hc0, hc1, hc2, hc3⟩ := ((D.out wr hB)).elem (i := k) hlt
            have hk0 : (0 : Int) ≤ (k : Int) := Int.natCast_nonneg _
            have hk1 : (k : Int) < (g.length : Int) := by omega
            have HS := Lib.hid hs
            have hfv : findV x.name g = .tuple #[.int .i64 (k : Int), .bool true] := by unfold findV; rw [difSg_get HDF.out hs]
            have CN := Lib.hid (find_any x.name g (by omega) wr.heap.size (some ⟨b, o, none⟩) gc wr (Nat.le_refl _) (D.out wr hB))
            rw [hfv] at CN
            clear hfv hs hxw hB
            go_wp2_with fail
            refine CN.out.mono ?_
            rintro e w3 ⟨rfl, hb3⟩
            have e0 := (hb3.cell (p := ⟨b, o + k * 4, none⟩) hbn).trans hc0
            have HB3 := Lib.hid (HB.out.trans (hb3.mono hbz))
            clear hb3 hc0 hc1 hc2 hc3
            have HST := Lib.hid (noneB_step (name := name) HS.out)
            cases hq : noneB name g k with
            | false =>
              have HV := Lib.hid (show noneB name g (k + 1) = false from by rw [HST.out, hq]; rfl)
              clear hq HST
              go_wp2
              go_roundw
              case rel => exact ⟨k + 1, by omega, by go_num, by rw [HV.out], HB3.out⟩
              case measure => simp [intOf]; omega
            | true =>
              by_cases hnn : x.name = name
              · have HV := Lib.hid (show noneB name g (k + 1) = false from by rw [HST.out, hnn]; simp)
                subst hnn
                clear hq HST
                go_wp2
                go_roundw
                case rel => exact ⟨k + 1, by omega, by go_num, by rw [HV.out], HB3.out⟩
                case measure => simp [intOf]; omega
              · have HV := Lib.hid (show noneB name g (k + 1) = true from by rw [HST.out, hq]; simp [hnn])
                have hn1 : (x.name.toList == name.toList) = false := by rw [beq_toList_decide]; simp [hnn]
                have hn2 : ¬ x.name.toList = name.toList := fun h => hnn ((tl_iff _ _).1 h)
                clear hq HST
                go_wp2
                go_roundw
                case rel => exact ⟨k + 1, by omega, by go_num, by rw [HV.out], HB3.out⟩
                case measure => simp [intOf]; omega
          · obtain rfl : k = g.length := by omega
            have HE := noneB_end (name := name) (g := g)
            have CN := Lib.hid (find_any name g (by omega) wr.heap.size ga gc wr (Nat.le_refl _) (D.out wr hB))
            clear hB
            go_wp2_with fail
            refine CN.out.mono ?_
            rintro e w3 ⟨rfl, hb3⟩
            have HB3 := Lib.hid (HB.out.trans (hb3.mono hbz))
            clear hb3 CN
            unfold findV
            cases hx : idxSy name g with
            | none =>
              rw [hx] at HE
              have hq : noneB name g g.length = true := by simpa using HE
              rw [hq]
              clear hx hq HE
              dsimp only
              go_wp2_with fail
              refine (CA.out w3).mono ?_
              rintro e w4 ⟨rfl, hb4⟩
              have HB4 := Lib.hid (HB3.out.trans (hb4.mono HB3.out.size))
              clear hb4
              go_wp2
              go_ret
              exact ⟨rfl, HB4.out⟩
            | some i =>
              rw [hx] at HE
              have hq : noneB name g g.length = false := by simpa using HE
              rw [hq]
              clear hx hq HE
              dsimp only
              go_wp2_with fail
              refine (CA.out w3).mono ?_
              rintro e w4 ⟨rfl, hb4⟩
              have HB4 := Lib.hid (HB3.out.trans (hb4.mono HB3.out.size))
              clear hb4
              go_wp2
              go_ret
              exact ⟨rfl, HB4.out⟩
      · obtain ⟨k, hk⟩ : ∃ k, errG g = k := ⟨_, rfl⟩
        have hk0 : (k != 0) = true := by rw [← hk]; simpa using q2
        rw [hk]
        clear q2 hk
        go_wp2_with fail
        refine (CA.out w2).mono ?_
        rintro e w3 ⟨rfl, hb3⟩
        have B3 := Lib.hid (B2.out.trans (hb3.mono B2.out.size))
        clear hb3
        go_wp2
        go_ret
        exact ⟨rfl, B3.out⟩

end Go.Proofs.Ytacbkiknpnokcaa
