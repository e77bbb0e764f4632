/- Contract of boundVars: the variables that either of two substitutions binds. -/
import Derived.Test.YtgjamdbiamleoaaConB
import Derived.Test.YtgjamdbiamleoaaSrt
import Derived.Test.YtgjamdbiamleoaaThen
namespace Go.Proofs.Ytgjamdbiamleoaa
set_option linter.unusedVariables false
set_option linter.unusedSimpArgs false
open Go.RowKit Go.Sort

theorem rightS_len : ∀ {s : Sb} {l : Int}, l ≤ 256 → rightS l s = true → l + s.length ≤ 256
  | [], l, hl, _ => by simp; omega
  | (x, t) :: s, l, hl, h => by
    rw [rightS] at h
    simp only [Bool.and_eq_true, decide_eq_true_iff] at h
    have := rightS_len (s := s) (l := x + 1) (by omega) h.2
    simp only [List.length_cons]
    omega
theorem bnd_mem {s : Sb} {v : Int} : bnd s v = true ↔ v ∈ s.map Prod.fst := by
  simp [bnd, List.any_eq_true, List.mem_map]

def BdI (zs : List Int) (wL : World) (v i : Value) (wr : World) : Prop :=
  ∃ k : Nat, k ≤ zs.length ∧ i = .int .i64 k ∧ (k = 0 → v = .slice none 0 0) ∧ wr.ownsRow wL.heap.size 3 1 v k ((zs.take k).map (Value.int .i64)) ∧ Below wL.heap.size wL wr

set_option maxRecDepth 100000 in
set_option maxHeartbeats 2000000 in
theorem bound_any : BoundAny := by
  intro s u hs hu n₀ a c a' c' w hn hS hU
  have hl1 := rightS_len (by omega) hs
  have hl2 := rightS_len (by omega) hu
  obtain ⟨zs, hzs⟩ : ∃ zs, (s ++ u).map Prod.fst = zs := ⟨_, rfl⟩
  have hzl : zs.length = (s ++ u).length := by rw [← hzs]; simp
  have hlz : zs.length ≤ 1000 := by rw [hzl, List.length_append]; omega
  have HV := Lib.hid (show IsVs s u (Go.Lib.compact (sorted zs)) from ⟨(sorted_rising zs).1, fun v => by rw [(sorted_rising zs).2 v, ← hzs, List.map_append, List.mem_append, bnd_mem, bnd_mem]⟩)
  have HVL := Lib.hid (show (Go.Lib.compact (sorted zs)).length ≤ 1000 from Nat.le_trans (compact_length _) (by rw [sorted_length]; exact hlz))
  have CC : Calls Try.prog 77 #[.slice (some ⟨w.heap.size, 0, none⟩) 2 2] (w.alloc (.cells #[.slice a s.length c, .slice a' u.length c'] 22)) fun e w' =>
      ∃ ar cr, e = .returned (.slice ar zs.length cr) ∧ IsBs w'.heap.size w' (s ++ u) ar cr ∧ Below w.heap.size w w' := by
    rw [hzl]
    have h := concB_any [s, u] (by simp) (by simp; omega) n₀ w.heap.size 0 2 (w.alloc (.cells #[.slice a s.length c, .slice a' u.length c'] 22)) (by simp; omega) (fun j zs hz => by
      have hb : Below n₀ w (w.alloc (.cells #[.slice a s.length c, .slice a' u.length c'] 22)) := (Below.refl _ _).alloc hn _
      match j, hz with
      | 0, hz => simp at hz; subst hz; exact ⟨a, c, by simp [go_sem], hS.below hb⟩
      | 1, hz => simp at hz; subst hz; exact ⟨a', c', by simp [go_sem], hU.below hb⟩)
    refine h.mono ?_
    rintro e w' ⟨ar, cr, he, hI, hb⟩
    have hf : [s, u].flatten = s ++ u := by simp
    rw [hf] at he hI
    exact ⟨ar, cr, he, hI, ((Below.refl w.heap.size w).alloc (Nat.le_refl _) _).trans (hb.mono (by simp))⟩
  have HC := Lib.hid CC
  have HZS := Lib.hid hzs
  clear hS hU CC hs hu hzs hn
  obtain ⟨i0, hi, hz0, hz1, hz2⟩ := info_parts info3
  go_enter Try.func48, Try.ntmps48
  go_wp2_with fail
  refine HC.out.mono ?_
  rintro e wL ⟨ar, cr, rfl, hI, hb⟩
  have HI := Lib.hid hI
  have HBL := Lib.hid hb
  have hlc : (s ++ u).length ≤ cr ∧ cr ≤ maxLen := ⟨hI.1, hI.2.1⟩
  unfold maxLen at hlc
  obtain ⟨hlc1, hlc2⟩ := hlc
  rw [← hzl] at hlc1
  have HZL := Lib.hid hzl
  clear hI hb HC hzl
  go_wp2
  go_loopw [5, 13] (fun v i wr => BdI zs wL v i wr) (fun _ i _ => zs.length - (intOf i).toNat)
  case atStart => exact ⟨0, Nat.zero_le _, rfl, fun _ => rfl, World.ownsRow_nil _ _ _ _, Below.refl _ _⟩
  case round =>
    obtain ⟨k, hk, rfl, hv0, hown, hB⟩ := hrel
    have HO := Lib.hid hown
    have HB := Lib.hid hB
    have H0 := Lib.hid hv0
    have hbz := hB.size
    clear hown hB hv0
    by_cases hlt : k < zs.length
    · obtain ⟨b, o, x, t, a2, c2, rfl, hbn, hsk, hxw, htw, hc0, hc1, hc2, _⟩ := (HI.out.below HB.out).elem (i := k) (by have := HZL.out; omega)
      have hzk : zs[k]? = some x := by rw [← HZS.out, List.getElem?_map, hsk]; rfl
      have HZK := Lib.hid hzk
      have hk0 : (0 : Int) ≤ (k : Int) := Int.natCast_nonneg _
      have hk1 : (k : Int) < (zs.length : Int) := by omega
      have hbw : b < wr.heap.size := by omega
      have hkm : k + 1 ≤ maxLen := by unfold maxLen; omega
      clear hsk hxw htw hzk
      go_wp2_with (at_builtin; refine stopHere ?_)
      refine Lib.hid ?_
      refine wpList_append_own _ rfl _ _ 45 rfl wL.heap.size 3 i0 (.int .i64 0) 1 8 Try.underlying45 hi hz0 hz1 hz2 rfl (by decide) _ k _ rfl ((HO.out.alloc _).alloc _) ⟨wr.heap.size + 1, 0, none⟩ 1 1 [.int .i64 x] (by rfl) rfl (cell_one_at _ _ _ _ (by simp)) (by simp [Value.oneCell']) hkm (by omega) (by simp; omega) ?_
      intro v' w2 hown2 hgr2 hiff
      have HO2 := Lib.hid hown2
      have HG2 := Lib.hid hgr2
      clear hown2 hgr2 hiff
      go_wp2
      go_roundw
      case rel =>
        refine ⟨k + 1, by omega, by go_num, fun e => by omega, ?_, ?_⟩
        · obtain ⟨hkl, hke⟩ := List.getElem?_eq_some_iff.1 HZK.out
          rw [List.take_succ_eq_append_getElem hkl, hke, List.map_append]
          exact HO2.out
        · exact ((HB.out.alloc hbz _).alloc (by simp; omega) _).grown HG2.out (by simp; omega) (fun q hq => (HO.out.lt q hq).1)
      case measure => simp [intOf]; omega
    · obtain rfl : k = zs.length := by omega
      have hF := HBL.out.trans (HB.out.mono HBL.out.size)
      have HF := Lib.hid hF
      have hown := HO.out
      rw [List.take_length] at hown
      by_cases hz : zs.length = 0
      · have h0 := H0.out hz
        subst h0
        have hzn : zs = [] := List.eq_nil_of_length_eq_zero hz
        subst hzn
        clear hown hF
        go_wp2_with fail
        refine (sort_zero _).mono ?_
        rintro e w2 ⟨rfl, rfl⟩
        go_wp2_with fail
        refine (Any.slices_Compact_int_empty Try.lays2c20 none 0 _).mono ?_
        rintro e w3 ⟨rfl, rfl⟩
        go_wp2
        go_ret
        exact ⟨_, none, 0, HV.out, HVL.out, by simp [Go.Lib.compact, Go.Lib.compactUpTo, sorted], ⟨by simp [Go.Lib.compact, Go.Lib.compactUpTo, sorted], by simp [maxLen], .inl (by simp [Go.Lib.compact, Go.Lib.compactUpTo, sorted])⟩, HF.out⟩
      · obtain ⟨m, hm⟩ : ∃ m, zs.length = m + 1 := ⟨zs.length - 1, by omega⟩
        obtain ⟨g, cap, hvv⟩ := ownsRow_succ (hm ▸ hown)
        rw [← hm] at hvv
        subst hvv
        have HO3 := Lib.hid hown
        clear hown hm hF
        go_wp2_with fail
        refine (sort_any wL.heap.size zs g cap wr (by omega) HO3.out).mono ?_
        rintro e w2 ⟨rfl, hown2, hgr2⟩
        have HB2 := Lib.hid (HB.out.grown hgr2 hbz (fun q hq => (HO3.out.lt q (by simpa [Value.ownBlock] using hq)).1))
        have HO2 := Lib.hid hown2
        clear hown2 hgr2
        go_wp2_with fail
        rw [← sorted_length zs]
        have h3 := HO2.out
        rw [← sorted_length zs] at h3
        refine (compact_any wL.heap.size (sorted zs) g cap w2 (compact_length _) h3).mono ?_
        rintro e w3 ⟨rfl, hI3, hgr3⟩
        have HB3 := Lib.hid (HB2.out.grown hgr3 HB2.out.size (fun q hq => (h3.lt q (by simpa [Value.ownBlock] using hq)).1))
        have HI3 := Lib.hid hI3
        clear hI3 hgr3 h3
        go_wp2
        go_ret
        exact ⟨_, _, _, HV.out, HVL.out, rfl, HI3.out, HBL.out.trans (HB3.out.mono HBL.out.size)⟩

end Go.Proofs.Ytgjamdbiamleoaa
