/- Srt: joined of Srt, Srt0, Cmpt. -/
import Derived.Test.YtcbjnfdhghhgeaaLeaf
import Derived.Test.YtcbjnfdhghhgeaaQ1a
import Derived.Shelf.Sort.Plain
import Derived.Shelf.Slices.CompactI
/- The library's sort of numbers, at this program: a row of one's own is sorted in place. -/
namespace Go.Proofs
open Go.Shelf
def Try.lays189_ren : Go.Shelf.Ren := ⟨fun | 189 => 76 | 125 => 102 | 257 => 101 | 128 => 128 | 129 => 129 | 294 => 119 | 295 => 120 | 296 => 121 | 297 => 122 | 298 => 123 | 299 => 124 | 216 => 125 | 300 => 126 | 301 => 127 | 328 => 140 | 329 => 141 | 330 => 142 | 331 => 143 | 332 => 144 | 215 => 145 | 343 => 150 | n => n, fun | 28 => 46 | 3 => 3 | 46 => 141 | 0 => 0 | 51 => 167 | 53 => 169 | 4 => 4 | 183 => 160 | 182 => 159 | 131 => 134 | 5 => 5 | 9 => 9 | 218 => 178 | 222 => 182 | 228 => 187 | 229 => 188 | n => n, fun | n => n⟩
theorem Try.lays189 : Go.Proofs.Lays.n189 Try.prog Try.lays189_ren := {
  mixed := by kernel_rfl
  f125 := Try.func102.trans (congrArg some (by kernel_rfl))
  f128 := Try.func128.trans (congrArg some (by kernel_rfl))
  f129 := Try.func129.trans (congrArg some (by kernel_rfl))
  f189 := Try.func76.trans (congrArg some (by kernel_rfl))
  f215 := Try.func145.trans (congrArg some (by kernel_rfl))
  f216 := Try.func125.trans (congrArg some (by kernel_rfl))
  f257 := Try.func101.trans (congrArg some (by kernel_rfl))
  f294 := Try.func119.trans (congrArg some (by kernel_rfl))
  f295 := Try.func120.trans (congrArg some (by kernel_rfl))
  f296 := Try.func121.trans (congrArg some (by kernel_rfl))
  f297 := Try.func122.trans (congrArg some (by kernel_rfl))
  f298 := Try.func123.trans (congrArg some (by kernel_rfl))
  f299 := Try.func124.trans (congrArg some (by kernel_rfl))
  f300 := Try.func126.trans (congrArg some (by kernel_rfl))
  f301 := Try.func127.trans (congrArg some (by kernel_rfl))
  f328 := Try.func140.trans (congrArg some (by kernel_rfl))
  f329 := Try.func141.trans (congrArg some (by kernel_rfl))
  f330 := Try.func142.trans (congrArg some (by kernel_rfl))
  f331 := Try.func143.trans (congrArg some (by kernel_rfl))
  f332 := Try.func144.trans (congrArg some (by kernel_rfl))
  f343 := Try.func150.trans (congrArg some (by kernel_rfl))
  t0 := Try.underlying0
  a0 := Try.isAgg0
  z0 := Try.sizeOf0
  v0 := Try.zeroValue0
  t3 := Try.underlying3
  a3 := Try.isAgg3
  z3 := Try.sizeOf3
  v3 := Try.zeroValue3
  t4 := Try.underlying4
  a4 := Try.isAgg4
  z4 := Try.sizeOf4
  v4 := Try.zeroValue4
  t5 := Try.underlying5
  a5 := Try.isAgg5
  z5 := Try.sizeOf5
  v5 := Try.zeroValue5
  t9 := Try.underlying9
  a9 := Try.isAgg9
  z9 := Try.sizeOf9
  v9 := Try.zeroValue9
  t28 := Try.underlying46
  a28 := Try.isAgg46
  z28 := Try.sizeOf46
  v28 := Try.zeroValue46
  t46 := Try.underlying141
  a46 := Try.isAgg141
  z46 := Try.sizeOf141
  v46 := Try.zeroValue141
  t51 := Try.underlying167
  a51 := Try.isAgg167
  z51 := Try.sizeOf167
  v51 := Try.zeroValue167
  t53 := Try.underlying169
  a53 := Try.isAgg169
  z53 := Try.sizeOf169
  v53 := Try.zeroValue169
  t131 := Try.underlying134
  a131 := Try.isAgg134
  z131 := Try.sizeOf134
  v131 := Try.zeroValue134
  t182 := Try.underlying159
  a182 := Try.isAgg159
  z182 := Try.sizeOf159
  v182 := Try.zeroValue159
  t183 := Try.underlying160
  a183 := Try.isAgg160
  z183 := Try.sizeOf160
  v183 := Try.zeroValue160
  t218 := Try.underlying178
  a218 := Try.isAgg178
  z218 := Try.sizeOf178
  v218 := Try.zeroValue178
  t222 := Try.underlying182
  a222 := Try.isAgg182
  z222 := Try.sizeOf182
  v222 := Try.zeroValue182
  t228 := Try.underlying187
  a228 := Try.isAgg187
  z228 := Try.sizeOf187
  v228 := Try.zeroValue187
  t229 := Try.underlying188
  a229 := Try.isAgg188
  z229 := Try.sizeOf188
  v229 := Try.zeroValue188 }
end Go.Proofs
namespace Go.Proofs.Ytcbjnfdhghhgeaa
set_option linter.unusedVariables false
set_option linter.unusedSimpArgs false
open Go.RowKit Go.Sort

def sorted (zs : List Int) : List Int := zs.mergeSort fun x y => decide (x ≤ y)
theorem sorted_length (zs : List Int) : (sorted zs).length = zs.length := by simp [sorted]
theorem putCells_take {zs : List Int} {cur : Array Value} (h : zs.length ≤ cur.size) : (putCells (Value.int .i64) 0 zs.toArray cur).toList.take zs.length = zs.map (Value.int .i64) := by
  apply List.ext_getElem?
  intro j
  rw [List.getElem?_take, List.getElem?_map]
  by_cases hj : j < zs.length
  · rw [if_pos hj, List.getElem?_eq_getElem hj]
    unfold putCells
    rw [Array.getElem?_toList, Array.getElem?_mapIdx, Array.getElem?_eq_getElem (by omega)]
    simp [hj]
  · rw [if_neg hj, List.getElem?_eq_none (by omega)]
    rfl

theorem sort_any (base : Nat) (zs : List Int) (g cap : Nat) (w : World) (hl : zs.length ≤ 1000000000000) (hown : w.ownsRow base 3 1 (.slice (some ⟨g, 0, none⟩) zs.length cap) zs.length (zs.map (Value.int .i64))) :
    Calls Try.prog 76 #[.slice (some ⟨g, 0, none⟩) zs.length cap] w fun e w' =>
      e = .returned (.tuple #[]) ∧ w'.ownsRow base 3 1 (.slice (some ⟨g, 0, none⟩) zs.length cap) zs.length ((sorted zs).map (Value.int .i64)) ∧ w.grownBy w' (some g) := by
  rcases hown.2 with ⟨h, _⟩ | ⟨g', cap', cur, hv, hb, hh, hn, hc, hs, ht⟩
  · cases h
  simp only [Value.slice.injEq, Option.some.injEq, Addr.mk.injEq] at hv
  obtain ⟨⟨rfl, _⟩, _, rfl⟩ := hv
  have hgl : g < w.heap.size := (Array.getElem?_eq_some_iff.1 hh).1
  rw [Nat.mul_one] at ht hs
  have hH : Holds (Value.int .i64) w g 0 zs.toArray := fun j hj => by
    simp only [List.size_toArray] at hj
    refine ⟨?_, by simp [World.frozen?, hh]⟩
    have h1 : cur[j]? = some (.int .i64 zs[j]) := by
      have h2 := congrArg (fun l => l[j]?) ht
      simp only [List.getElem?_take, if_pos hj, List.getElem?_map, List.getElem?_eq_getElem hj, Option.map_some, Array.getElem?_toList] at h2
      exact h2
    simp [World.cell?, hh, h1, hj]
  refine (Any.slices_Sort_int Try.lays189 g 0 cap zs w hH hgl (by omega)).mono ?_
  rintro e w' ⟨rfl, n, os, rfl⟩
  have hst : ∀ i, i < w.heap.size → i ≠ g → (grow (putRow (Value.int .i64) (Sort.ahead w n) g 0 (sorted zs).toArray) os).heap[i]? = w.heap[i]? := fun i hi hne => by
    simp only [grow, putRow, mapBlock, Sort.ahead]
    rw [Array.getElem?_append_left (by simpa using hi), Array.getElem?_modify, if_neg (fun e => hne e.symm)]
  have hsg : (grow (putRow (Value.int .i64) (Sort.ahead w n) g 0 (sorted zs).toArray) os).heap[g]? = some (.cells (putCells (Value.int .i64) 0 (sorted zs).toArray cur) 3 (0, 0)) := by
    simp only [grow, putRow, mapBlock, Sort.ahead]
    rw [Array.getElem?_append_left (by simpa using hgl), Array.getElem?_modify, if_pos rfl, hh]
    rfl
  refine ⟨rfl, ⟨by simp [sorted_length], .inr ⟨g, cap, _, rfl, hb, hsg, hn, hc, by simp [putCells, hs], ?_⟩⟩, ⟨rfl, rfl, rfl, by simp [grow, putRow, mapBlock, Sort.ahead], fun i hi hne => hst i hi (fun e => hne (by rw [e]))⟩⟩
  rw [Nat.mul_one, ← sorted_length zs]
  exact putCells_take (by rw [sorted_length]; omega)

end Go.Proofs.Ytcbjnfdhghhgeaa

/- The library's sort of numbers at nil. -/
namespace Go.Proofs.Ytcbjnfdhghhgeaa
set_option linter.unusedVariables false
set_option linter.unusedSimpArgs false
open Go.RowKit

set_option maxRecDepth 100000 in
theorem len64_zero (w : World) : Calls Try.prog 129 #[.int .u64 0] w fun e w' => e = .returned (.int .i64 0) ∧ w' = w := by
  go_enter Try.func129, Try.ntmps129
  go_wp2
  go_ret
  exact ⟨by kernel_rfl, rfl⟩
theorem len_zero (w : World) : Calls Try.prog 102 #[.int .u64 0] w fun e w' => e = .returned (.int .i64 0) ∧ w' = w := by
  go_enter Try.func102, Try.ntmps102
  go_wp2_with fail
  refine (len64_zero w).mono ?_
  rintro e w' ⟨rfl, rfl⟩
  go_wp2
  go_ret
  exact ⟨rfl, rfl⟩
set_option maxRecDepth 100000 in
theorem insertion_zero (w : World) : Calls Try.prog 119 #[.slice none 0 0, .int .i64 0, .int .i64 0] w fun e w' => e = .returned (.tuple #[]) ∧ w' = w := by
  go_enter Try.func119, Try.ntmps119
  go_wp2
  go_loopw [6] (fun i wr => i = .int .i64 1 ∧ wr = w) (fun _ _ => 0)
  case atStart => exact ⟨rfl, rfl⟩
  case round =>
    obtain ⟨rfl, rfl⟩ := hrel
    go_wp2
    refine bodyPost_end (v := .tuple #[]) (by simp [results, Try.results119, go_sem]) rfl ?_
    exact ⟨rfl, rfl⟩
set_option maxRecDepth 100000 in
theorem pdq_zero (w : World) : Calls Try.prog 101 #[.slice none 0 0, .int .i64 0, .int .i64 0, .int .i64 0] w fun e w' => e = .returned (.tuple #[]) ∧ w' = w := by
  go_enter Try.func101, Try.ntmps101
  go_wp2
  go_loopw [1, 2] (fun a b wr => a = .int .i64 0 ∧ b = .int .i64 0 ∧ wr = w) (fun _ _ _ => 0)
  case atStart => exact ⟨rfl, rfl, rfl⟩
  case round =>
    obtain ⟨rfl, rfl, rfl⟩ := hrel
    go_wp2_with fail
    refine (insertion_zero _).mono ?_
    rintro e w' ⟨rfl, rfl⟩
    go_wp2
    refine bodyPost_ret (v := .tuple #[]) (by simp [results, Try.results101, go_sem]) rfl ?_
    exact ⟨rfl, rfl⟩
set_option maxRecDepth 100000 in
theorem sort_zero (w : World) : Calls Try.prog 76 #[.slice none 0 0] w fun e w' => e = .returned (.tuple #[]) ∧ w' = w := by
  go_enter Try.func76, Try.ntmps76
  go_wp2_with fail
  refine (len_zero _).mono ?_
  rintro e w' ⟨rfl, rfl⟩
  go_wp2_with fail
  refine (pdq_zero _).mono ?_
  rintro e w' ⟨rfl, rfl⟩
  go_wp2
  refine bodyPost_end (v := .tuple #[]) (by simp [results, Try.results76, go_sem]) rfl ?_
  exact ⟨rfl, rfl⟩

end Go.Proofs.Ytcbjnfdhghhgeaa

/- The library's Compact of numbers, at this program: a row of one's own. -/
namespace Go.Proofs
open Go.Shelf
def Try.lays2c20_ren : Go.Shelf.Ren := ⟨fun | 20 => 77 | n => n, fun | 22 => 46 | 3 => 3 | 4 => 4 | 0 => 0 | n => n, fun | n => n⟩
theorem Try.lays2c20 : Go.Proofs.Lays2.n20 Try.prog Try.lays2c20_ren := {
  mixed := by kernel_rfl
  f20 := Try.func77.trans (congrArg some (by kernel_rfl))
  t0 := Try.underlying0
  a0 := Try.isAgg0
  z0 := Try.sizeOf0
  v0 := Try.zeroValue0
  t3 := Try.underlying3
  a3 := Try.isAgg3
  z3 := Try.sizeOf3
  v3 := Try.zeroValue3
  t4 := Try.underlying4
  a4 := Try.isAgg4
  z4 := Try.sizeOf4
  v4 := Try.zeroValue4
  t22 := Try.underlying46
  a22 := Try.isAgg46
  z22 := Try.sizeOf46
  v22 := Try.zeroValue46
  i3 := by kernel_rfl }
end Go.Proofs
namespace Go.Proofs.Ytcbjnfdhghhgeaa
set_option linter.unusedVariables false
set_option linter.unusedSimpArgs false
open Go.RowKit Go.Sort

theorem compact_any (base : Nat) (zs : List Int) (g cap : Nat) (w : World) (hle : (Go.Lib.compact zs).length ≤ zs.length) (hown : w.ownsRow base 3 1 (.slice (some ⟨g, 0, none⟩) zs.length cap) zs.length (zs.map (Value.int .i64))) :
    Calls Try.prog 77 #[.slice (some ⟨g, 0, none⟩) zs.length cap] w fun e w' =>
      e = .returned (.slice (some ⟨g, 0, none⟩) (Go.Lib.compact zs).length cap) ∧ IsIs w'.heap.size w' (Go.Lib.compact zs) (some ⟨g, 0, none⟩) cap ∧ w.grownBy w' (some g) := by
  rcases hown.2 with ⟨h, _⟩ | ⟨g', cap', cur, hv, hb, hh, hn, hc, hs, ht⟩
  · cases h
  simp only [Value.slice.injEq, Option.some.injEq, Addr.mk.injEq] at hv
  obtain ⟨⟨rfl, _⟩, _, rfl⟩ := hv
  have hgl : g < w.heap.size := (Array.getElem?_eq_some_iff.1 hh).1
  rw [Nat.mul_one] at ht hs
  have hH : Holds (Value.int .i64) w g 0 zs.toArray := fun j hj => by
    simp only [List.size_toArray] at hj
    refine ⟨?_, by simp [World.frozen?, hh]⟩
    have h1 : cur[j]? = some (.int .i64 zs[j]) := by
      have h2 := congrArg (fun l => l[j]?) ht
      simp only [List.getElem?_take, if_pos hj, List.getElem?_map, List.getElem?_eq_getElem hj, Option.map_some, Array.getElem?_toList] at h2
      exact h2
    simp [World.cell?, hh, h1, hj]
  refine (Any.slices_Compact_int Try.lays2c20 g 0 cap zs w hH (by unfold maxLen at hc; omega) hn).mono ?_
  rintro e w' ⟨rfl, q, rfl⟩
  have hfull : Holds (Value.int .i64) (putRow (Value.int .i64) (Sort.ahead w q) g 0 (Go.Lib.compact zs ++ List.replicate (zs.length - (Go.Lib.compact zs).length) 0).toArray) g 0 (Go.Lib.compact zs ++ List.replicate (zs.length - (Go.Lib.compact zs).length) 0).toArray :=
    holds_putRow (Value.int .i64) (Sort.ahead w q) g 0 zs.toArray _ hH (by simp; omega)
  refine ⟨rfl, ⟨by omega, hc, .inr ⟨g, 0, rfl, by simpa [Sort.ahead] using hgl, fun j z hz => ?_⟩⟩, ⟨rfl, rfl, rfl, by simp [Sort.ahead], fun i hi hne => ?_⟩⟩
  · obtain ⟨hj, e⟩ := List.getElem?_eq_some_iff.1 hz
    have h1 := (hfull j (by simp; omega)).1
    rw [h1]
    simp only [List.getElem!_toArray, List.getElem!_eq_getElem?_getD, List.getElem?_append_left hj, hz, Option.getD_some, Nat.zero_add]
  · simp only [putRow, mapBlock, Sort.ahead]
    rw [Array.getElem?_modify, if_neg (fun e => hne (by rw [e]))]

theorem compact_length (zs : List Int) : (Go.Lib.compact zs).length ≤ zs.length := by
  unfold Go.Lib.compact Go.Lib.compactUpTo
  rw [List.length_map]
  exact Nat.le_trans (List.length_filter_le _ _) (by simp)

/-- Of a list that does not fall Compact leaves a rising one with the same members. -/
theorem compact_rising {zs : List Int} (h : zs.Pairwise (· ≤ ·)) : (Go.Lib.compact zs).Pairwise (· < ·) ∧ ∀ v, v ∈ Go.Lib.compact zs ↔ v ∈ zs := by
  have hget : ∀ i, i < zs.length → zs.toArray[i]! = zs[i]! := fun i hi => by simp
  have hmono : ∀ i j, i ≤ j → j < zs.length → zs.toArray[i]! ≤ zs.toArray[j]! := fun i j hij hj => by
    rw [List.pairwise_iff_getElem] at h
    rw [getElem!_pos zs.toArray i (by simp; omega), getElem!_pos zs.toArray j (by simpa using hj)]
    rcases Nat.lt_or_eq_of_le hij with h1 | h1
    · exact h i j (by omega) hj h1
    · subst h1; exact Int.le_refl _
  unfold Go.Lib.compact Go.Lib.compactUpTo
  constructor
  · rw [List.pairwise_map]
    refine List.Pairwise.imp_of_mem ?_ (List.pairwise_lt_range.filter _)
    intro i j hi hj hij
    rw [List.mem_filter, List.mem_range] at hi hj
    have hk := hj.2
    unfold Go.Lib.keeps at hk
    simp only [decide_eq_true_iff] at hk
    rcases hk with hk | hk
    · omega
    · have h1 := hmono i (j - 1) (by omega) (by omega)
      have h2 := hmono (j - 1) j (by omega) hj.1
      omega
  · intro v
    simp only [List.mem_map, List.mem_filter, List.mem_range]
    constructor
    · rintro ⟨i, ⟨hi, _⟩, rfl⟩
      rw [getElem!_pos zs.toArray i (by simpa using hi)]
      simp
    · intro hv
      obtain ⟨i, hi⟩ := List.getElem?_of_mem hv
      obtain ⟨hl, rfl⟩ := List.getElem?_eq_some_iff.1 hi
      clear hi hv
      induction i with
      | zero => exact ⟨0, ⟨hl, by simp [Go.Lib.keeps]⟩, by rw [getElem!_pos zs.toArray 0 (by simpa using hl)]; simp⟩
      | succ i ih =>
        by_cases hk : Go.Lib.keeps zs.toArray (i + 1) = true
        · exact ⟨i + 1, ⟨hl, hk⟩, by rw [getElem!_pos zs.toArray (i + 1) (by simpa using hl)]; simp⟩
        · obtain ⟨j, hj, e⟩ := ih (by omega)
          refine ⟨j, hj, e.trans ?_⟩
          unfold Go.Lib.keeps at hk
          simp only [decide_eq_true_iff, not_or, Decidable.not_not] at hk
          have h2 := hk.2
          rw [getElem!_pos zs.toArray (i + 1) (by simpa using hl), getElem!_pos zs.toArray (i + 1 - 1) (by simp; omega)] at h2
          simpa using h2.symm
theorem sorted_rising (zs : List Int) : (Go.Lib.compact (sorted zs)).Pairwise (· < ·) ∧ ∀ v, v ∈ Go.Lib.compact (sorted zs) ↔ v ∈ zs := by
  have hs : (sorted zs).Pairwise (· ≤ ·) := by
    have := List.pairwise_mergeSort (le := fun x y : Int => decide (x ≤ y)) (by intro a b c; simp; omega) (by intro a b; simp; omega) zs
    exact this.imp (by intro a b; simp)
  obtain ⟨h1, h2⟩ := compact_rising hs
  exact ⟨h1, fun v => by rw [h2 v]; unfold sorted; exact List.mem_mergeSort⟩

end Go.Proofs.Ytcbjnfdhghhgeaa
