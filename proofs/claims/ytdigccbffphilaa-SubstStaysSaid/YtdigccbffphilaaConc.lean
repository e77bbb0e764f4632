/- Contract of concat. -/
import Derived.Test.YtdigccbffphilaaPos
import Derived.Test.YtdigccbffphilaaVars
namespace Go.Proofs.Ytdigccbffphilaa
set_option linter.unusedVariables false
set_option linter.unusedSimpArgs false
open Go.RowKit

/-- A position in a block of its own, not below lo. -/
def PosV (lo : Nat) (W : World) (p : List Int) (x : Value) : Prop :=
  ∃ g cap cur, x = .slice (some ⟨g, 0, none⟩) p.length cap ∧ lo ≤ g ∧ W.heap[g]? = some (.cells cur 3 (0, 0)) ∧ p.length ≤ cap ∧ cap ≤ maxLen ∧ ∀ (j : Nat) (z : Int), p[j]? = some z → W.cell? ⟨g, j, none⟩ = some (.int .i64 z)

theorem posV_of_owns {lo : Nat} {W : World} {v : Value} {p : List Int} (h : W.ownsRow lo 3 1 v p.length (p.map (Value.int .i64))) (hne : v ≠ .slice none 0 0) : PosV lo W p v := by
  have hcells := fun g hg => h.cells (g := g) hg
  rcases h.2 with ⟨rfl, _⟩ | ⟨g, cap, cur, rfl, hg, hh, hn, hc, _⟩
  · exact absurd rfl hne
  · refine ⟨g, cap, cur, rfl, hg, hh, hn, hc, fun j z hz => ?_⟩
    have := hcells g rfl j (.int .i64 z) (by simp [hz])
    rw [addr_add] at this
    simpa using this

def ConcPost (L : List (List Int)) (w : World) (e : Ending) (w' : World) : Prop := ∃ v, e = .returned v ∧ PosV w.heap.size w' L.flatten v ∧ Below w.heap.size w w'
def ConcI (L : List (List Int)) (w : World) (v i : Value) (wr : World) : Prop :=
  ∃ k : Nat, k ≤ L.length ∧ i = .int .i64 k ∧ wr.ownsRow w.heap.size 3 1 v ((L.take k).flatten).length (((L.take k).flatten).map (Value.int .i64)) ∧ v ≠ .slice none 0 0 ∧ Below w.heap.size w wr

theorem flatten_take {L : List (List Int)} {k : Nat} {zs : List Int} (h : L[k]? = some zs) : (L.take (k + 1)).flatten = (L.take k).flatten ++ zs := by
  obtain ⟨hk, e⟩ := List.getElem?_eq_some_iff.1 h
  rw [List.take_succ_eq_append_getElem hk, e]; simp
theorem flatten_take_le (L : List (List Int)) (k : Nat) : (L.take k).flatten.length ≤ L.flatten.length := by
  have : (L.take k ++ L.drop k).flatten = L.flatten := by rw [List.take_append_drop]
  rw [← this, List.flatten_append, List.length_append]; omega

set_option maxRecDepth 100000 in
set_option maxHeartbeats 2000000 in
theorem concat_any (L : List (List Int)) (hll : L.length ≤ 100) (hfl : L.flatten.length ≤ 1000000) (a : Option Addr) (c : Nat) (w : World)
    (hL : ∀ (j : Nat) (zs : List Int), L[j]? = some zs → ∃ b o, a = some ⟨b, o, none⟩ ∧ ∃ ad c', w.cell? ⟨b, o + j, none⟩ = some (.slice (some ad) zs.length c') ∧ ∀ (i : Nat) (z : Int), zs[i]? = some z → w.cell? (ad.add i) = some (.int .i64 z)) :
    Calls Try.prog 45 #[.slice a L.length c] w (ConcPost L w) := by
  have HL := Lib.hid hL
  clear hL
  obtain ⟨i0, hi, hz0, hz1, hz2⟩ := info_parts info3
  go_enter Try.func45, Try.ntmps45
  go_wp2
  go_loop [3, 11] (fun t i => ∃ k : Nat, k ≤ L.length ∧ i = .int .i64 k ∧ t = .int .i64 (((L.take k).flatten.length : Nat) : Int)) (fun _ i => L.length - (intOf i).toNat)
  case atStart => exact ⟨0, Nat.zero_le _, rfl, rfl⟩
  case round =>
    obtain ⟨k, hk, rfl, rfl⟩ := hrel
    have hle := flatten_take_le L k
    by_cases hlt : k < L.length
    · have hzs := List.getElem?_eq_getElem hlt
      generalize L[k] = zs at hzs
      obtain ⟨b, o, rfl, ad, c', hc, _⟩ := HL.out k zs hzs
      have hft := flatten_take hzs
      have hle2 := flatten_take_le L (k + 1)
      have HFT := Lib.hid (congrArg List.length hft)
      rw [hft, List.length_append] at hle2
      generalize hq : (L.take k).flatten.length = q at *
      have HQ := Lib.hid hq
      clear hq hft hzs
      go_wp2
      go_round
      case rel =>
        refine ⟨k + 1, by omega, by go_num, ?_⟩
        have h1 := HFT.out
        rw [List.length_append, HQ.out] at h1
        rw [h1]
        exact congrArg (fun x : Int => Value.int .i64 x) (by omega)
      case measure => simp [intOf]; omega
    · obtain rfl : k = L.length := by omega
      rw [List.take_length] at hle ⊢
      generalize hq : L.flatten.length = q at *
      have HQ := Lib.hid hq
      clear hq hlt hk
      go_wp2_with (at_make; refine stopHere ?_)
      refine Lib.hid ?_
      refine wpList_make_own _ rfl _ _ 25 rfl w.heap.size 3 i0 (.int .i64 0) 1 Try.underlying25 hi hz0 hz1 .i64 .i64 (q : Int) q rfl rfl rfl (by rw [hz2]; omega) (by unfold maxLen; omega) (Nat.le_refl _) ?_
      intro w1 hown1 hgr1
      have hb1 : Below w.heap.size w w1 := (Below.refl _ w).grown hgr1 (Nat.le_refl _) (by simp)
      have HO1 := Lib.hid hown1
      have HB1 := Lib.hid hb1
      clear hown1 hgr1 hb1
      go_wp2
      go_loopw [6, 24] (fun v i wr => ConcI L w v i wr) (fun _ i _ => L.length - (intOf i).toNat)
      case atStart => exact ⟨0, Nat.zero_le _, rfl, by simpa using HO1.out, by simp, HB1.out⟩
      case round =>
        clear HO1 HB1
        obtain ⟨k, hk, rfl, hown, hne, hB⟩ := hrel
        have HO := Lib.hid hown
        have HB := Lib.hid hB
        have HNE := Lib.hid hne
        clear hown hB hne
        by_cases hlt : k < L.length
        · have hzs := List.getElem?_eq_getElem hlt
          generalize L[k] = zs at hzs
          obtain ⟨b, o, rfl, ad, c', hc, hcz⟩ := HL.out k zs hzs
          have hbl : b < w.heap.size := World.block_lt_of_cell? w ⟨b, o + k, none⟩ hc
          have hc2 := (HB.out.cell (p := ⟨b, o + k, none⟩) hbl).trans hc
          have hft := flatten_take hzs
          have hle2 := flatten_take_le L (k + 1)
          rw [hft, List.length_append] at hle2
          have HFT := Lib.hid hft
          have HCZ := Lib.hid hcz
          have hql := HQ.out
          clear hft hzs hcz hc
          go_wp2_with (at_builtin; refine stopHere ?_)
          refine Lib.hid ?_
          refine wpList_append_own _ rfl _ _ 25 rfl w.heap.size 3 i0 (.int .i64 0) 1 8 Try.underlying25 hi hz0 hz1 hz2 rfl (by decide) u6 _ _ rfl HO.out ad zs.length c' (zs.map (Value.int .i64)) rfl (by simp) (fun j u hj => by
            rw [List.getElem?_map, Option.map_eq_some_iff] at hj
            obtain ⟨z, hz, rfl⟩ := hj
            have h1 := HCZ.out j z hz
            exact (HB.out.cell (World.block_lt_of_cell? w _ h1)).trans h1) (by intro u hu; obtain ⟨z, _, rfl⟩ := List.mem_map.1 hu; rfl) (by unfold maxLen; omega) (by omega) HB.out.size ?_
          intro v' w2 hown2 hgr2 hiff
          have HO2 := Lib.hid hown2
          have HB2 := Lib.hid (HB.out.grown hgr2 HB.out.size (fun q hq => (HO.out.lt q hq).1))
          have HI2 := Lib.hid hiff
          clear hown2 hgr2 hiff
          go_wp2
          go_roundw
          case rel =>
            refine ⟨k + 1, by omega, by go_num, ?_, fun e => HNE.out (HI2.out.1 e).1, HB2.out⟩
            rw [HFT.out, List.length_append, List.map_append]
            exact HO2.out
          case measure => simp [intOf]; omega
        · obtain rfl : k = L.length := by omega
          have hown := HO.out
          rw [List.take_length] at hown
          have HO' := Lib.hid hown
          clear hown
          go_wp2
          go_ret
          exact ⟨_, rfl, posV_of_owns HO'.out HNE.out, HB.out⟩

end Go.Proofs.Ytdigccbffphilaa
